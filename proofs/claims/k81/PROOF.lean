import PyProof.Rows.All
import Wide.All
import OpenK.AllK
import Wide.FinOn
import Lean
import PyProof.EqAt
import PyProof.EqKinds
import PyProof.TupleCall
import PySem.Challenge.RW_textkinds_k81_whole_read
set_option Elab.async false
set_option linter.all false
section
set_option maxRecDepth 100000
namespace L2
open PySem PySem.Spec PyProof.Rows
noncomputable abbrev Key := Sum Int Str
noncomputable def keyIs : Key → Value → Bool
  | .inl k, v => Value.isInt k v
  | .inr x, v => Value.isStrOf x v
noncomputable def keyH (w : World) : Key → Int
  | .inl k => hashInt k
  | .inr x => hashStr w x
theorem keyIs_shape : ∀ {k : Key} {v : Value}, keyIs k v = true → (∃ i t, k = Sum.inl i ∧ v = Value.int i t) ∨ (∃ x t, k = Sum.inr x ∧ v = Value.str x t)
  | .inl i, v, h => by
    obtain ⟨t, e⟩ := Value.isInt_shape (k := i) (v := v) h
    exact .inl ⟨i, t, rfl, e⟩
  | .inr x, v, h => by
    obtain ⟨t, e⟩ := Value.isStrOf_shape (x := x) (v := v) h
    exact .inr ⟨x, t, rfl, e⟩
theorem keyIs_int (i : Int) (t : Tok) : keyIs (.inl i) (.int i t) = true := by simp [keyIs, Value.isInt]
theorem keyIs_str (x : Str) (t : Tok) : keyIs (.inr x) (.str x t) = true := by simp [keyIs, Value.isStrOf]
theorem key_ll (a b : Int) : decide ((Sum.inl a : Key) = Sum.inl b) = (a == b) := by
  by_cases e : a = b
  · subst e; simp
  · have h : ¬ (Sum.inl a : Key) = Sum.inl b := fun q => e (Sum.inl.inj q)
    rw [decide_eq_false h]
    exact (beq_eq_false_iff_ne.mpr e).symm
theorem key_rr (a b : Str) : decide ((Sum.inr a : Key) = Sum.inr b) = decide (a = b) := by
  by_cases e : a = b
  · subst e; simp
  · have h : ¬ (Sum.inr a : Key) = Sum.inr b := fun q => e (Sum.inr.inj q)
    rw [decide_eq_false h, decide_eq_false e]
theorem key_lr (a : Int) (b : Str) : decide ((Sum.inl a : Key) = Sum.inr b) = false := decide_eq_false (fun q => nomatch q)
theorem key_rl (a : Str) (b : Int) : decide ((Sum.inr a : Key) = Sum.inl b) = false := decide_eq_false (fun q => nomatch q)
noncomputable def mixKind (prog : Program) (w : World) : PySem.KeyKind prog w Key where
  is := keyIs
  hash := keyH w
  inj := fun v a b ha hb => by
    rcases keyIs_shape ha with ⟨i, t, rfl, rfl⟩ | ⟨x, t, rfl, rfl⟩
    · rcases keyIs_shape hb with ⟨j, u, rfl, e⟩ | ⟨y, u, rfl, e⟩
      · injection e with e1 _; rw [e1]
      · exact nomatch e
    · rcases keyIs_shape hb with ⟨j, u, rfl, e⟩ | ⟨y, u, rfl, e⟩
      · exact nomatch e
      · injection e with e1 _; rw [e1]
  byValue := fun k v h => by
    rcases keyIs_shape h with ⟨i, t, rfl, rfl⟩ | ⟨x, t, rfl, rfl⟩ <;> rfl
  pyHash := fun hv h => by
    rcases keyIs_shape hv with ⟨i, t, rfl, rfl⟩ | ⟨x, t, rfl, rfl⟩
    · exact wpAny_pyHash_int h
    · exact wpAny_pyHash_str h
  eqBool := fun hu hv h => by
    rcases keyIs_shape hu with ⟨i, t, rfl, rfl⟩ | ⟨x, t, rfl, rfl⟩
    · rcases keyIs_shape hv with ⟨j, u, rfl, rfl⟩ | ⟨y, u, rfl, rfl⟩
      · rw [key_ll] at h; exact wpAny_eqBool_int h
      · rw [key_lr] at h; exact SeqAt.EqAt.int_str i t y u _ _ _ _ h
    · rcases keyIs_shape hv with ⟨j, u, rfl, rfl⟩ | ⟨y, u, rfl, rfl⟩
      · rw [key_rl] at h; exact SeqAt.EqAt.str_int x t j u _ _ _ _ h
      · rw [key_rr] at h; exact wpAny_eqBool_str h
  «strs» := fun k x t v h => by
    rcases keyIs_shape h with ⟨i, u, rfl, e⟩ | ⟨y, u, rfl, e⟩
    · exact nomatch e
    · injection e with e1 _
      subst e1
      cases v <;> rfl
theorem mixKind_int (prog : Program) (w : World) (i : Int) (t : Tok) : (mixKind prog w).is (.inl i) (.int i t) = true := keyIs_int i t
theorem mixKind_str (prog : Program) (w : World) (x : Str) (t : Tok) : (mixKind prog w).is (.inr x) (.str x t) = true := keyIs_str x t
end L2
namespace L2
open PySem PySem.Spec PyProof.Rows
inductive V where
  | non | bl (b : Bool) | int (i : Int) | str (x : Str) | byt (b : Array UInt8) | flt (b : UInt64) | ref (a : Addr) | ty (n : String)
  deriving DecidableEq
noncomputable def RelV : V → Value → Prop
  | .non, u => u = Value.none
  | .bl b, u => u = Value.bool b
  | .int i, u => ∃ t, u = Value.int i t
  | .str x, u => ∃ t, u = Value.str x t
  | .byt b, u => ∃ t, u = Value.bytes b t
  | .flt b, u => ∃ t, u = Value.float b t
  | .ref a, u => u = Value.ref a
  | .ty n, u => u = Value.type n
noncomputable abbrev Vals : List V → List Value → Prop := Paired RelV
theorem Vals.length {xs : List V} {us : List Value} (r : Vals xs us) : xs.length = us.length := Paired.length r
theorem Vals.get : ∀ {xs : List V} {us : List Value} {i : Nat} {x : V}, Vals xs us → xs[i]? = some x → ∃ u, us[i]? = some u ∧ RelV x u
  | _, _, _, _, .nil, e => by simp at e
  | _, _, 0, _, .cons r _, e => by simp at e; subst e; exact ⟨_, rfl, r⟩
  | _, _, i + 1, x, .cons _ t, e => by
    obtain ⟨u, h1, h2⟩ := Vals.get (i := i) (x := x) t (by simpa using e)
    exact ⟨u, by simpa using h1, h2⟩
theorem Vals.append : ∀ {xs ys : List V} {us ws : List Value}, Vals xs us → Vals ys ws → Vals (xs ++ ys) (us ++ ws)
  | _, _, _, _, .nil, s => s
  | _, _, _, _, .cons r t, s => .cons r (Vals.append t s)
theorem Vals.take : ∀ {xs : List V} {us : List Value} (n : Nat), Vals xs us → Vals (xs.take n) (us.take n)
  | _, _, 0, _ => .nil
  | _, _, _ + 1, .nil => .nil
  | _, _, n + 1, .cons r t => .cons r (Vals.take n t)
theorem Vals.drop : ∀ {xs : List V} {us : List Value} (n : Nat), Vals xs us → Vals (xs.drop n) (us.drop n)
  | _, _, 0, r => r
  | _, _, _ + 1, .nil => .nil
  | _, _, n + 1, .cons _ t => Vals.drop n t
noncomputable def RelO : Option V → Option Value → Prop
  | some v, some u => RelV v u
  | none, none => True
  | _, _ => False
noncomputable def KV {κ : Type} : List (κ × V) → List (κ × Value) → Prop := Paired fun (p : κ × V) (q : κ × Value) => p.1 = q.1 ∧ RelV p.2 q.2
noncomputable def kV : Key → V
  | .inl i => .int i
  | .inr x => .str x
inductive HO where
  | lst (xs : List V)
  | tup (xs : List V)
  | dK (kvs : List (Key × V)) | dT (kvs : List (List Key × V))
  | set (S : Int → Bool) (n : Nat)
  | ins (C dx : Addr) (fs : List (Str × V))
  | own (x : Addr)
  | xd (fs : List (Str × V))
  | met (f x : Addr)
  | rng (lo hi : Int)
  | frz (o : Obj) (u : HO)
  | tbl (ps : Array Value)
  | ext (φ : Heap → Prop)
noncomputable abbrev Hp := Addr → Option HO
noncomputable def upd (H : Hp) (a : Addr) (o : HO) : Hp := fun b => if b = a then some o else H b
theorem upd_same {H : Hp} {a : Addr} {o : HO} : upd H a o a = some o := by unfold upd; rw [if_pos rfl]
theorem upd_ne {H : Hp} {a b : Addr} {o : HO} (h : b ≠ a) : upd H a o b = H b := by unfold upd; rw [if_neg h]
theorem upd_upd {H : Hp} {a : Addr} {o u : HO} : upd (upd H a o) a u = upd H a u := by
  funext b; unfold upd; split <;> rfl
theorem ne_of {H : Hp} {a b : Addr} {o u : HO} (h : H a = some o) (h' : H b = some u) (d : o ≠ u) : a ≠ b := by
  intro e; subst e; rw [h] at h'; exact d (Option.some.inj h')
theorem ne_of_none {H : Hp} {a b : Addr} {o : HO} (h : H a = some o) (h' : H b = none) : a ≠ b := by
  intro e; subst e; rw [h] at h'; cases h'
section
variable (P : Program) (w : World)
noncomputable def ObjOk (H : Hp) (h : Heap) (a : Addr) : HO → Prop
  | .lst xs => xs.length ≤ sizeLine ∧ ∃ (its : List Value) (n : Nat), Vals xs its ∧ h.get? a = some { cls := .type "list", data := .seq its.toArray n }
  | .tup xs => xs.length ≤ sizeLine ∧ ∃ its : List Value, Vals xs its ∧ IsTup h a its.toArray
  | .dK kvs => kvs.length ≤ sizeLine ∧ (a == sysModules) = false ∧ ∃ vs, KV kvs vs ∧ h.DictOf (mixKind P w) a vs
  | .dT kvs => kvs.length ≤ sizeLine ∧ (a == sysModules) = false ∧ ∃ xs : List (List Key × Addr × Value),
      Paired (fun (p : List Key × V) (q : List Key × Addr × Value) => p.1 = q.1 ∧ H q.2.1 = some (.tup (p.1.map kV)) ∧ RelV p.2 q.2.2) kvs xs ∧
      ∃ o es ep, h.get? a = some o ∧ o.ExactDict ∧ o.data = .dict es ep ∧ es.toList = xs.map (entryOfKey (tupleKind (mixKind P w))) ∧ (xs.map (·.1)).Nodup
  | .set S n => h.SetOf (intKind P w) a S n
  | .ins C dx fs => H dx = some (.own a) ∧ fs.length ≤ 1000 ∧ dx ≠ a ∧ h.get? a = some (PySem.W.instObj C dx) ∧
      ∃ mA, h.Ns1 dx mA ∧ (∀ f, RelO (fs.lookup f) (mA f)) ∧ PySem.Within mA (fs.map (·.1))
  | .own _ => ∃ o, h.get? a = some o
  | .xd fs => ∃ mA, h.Ns1 a mA ∧ ∀ f, RelO (fs.lookup f) (mA f)
  | .rng lo hi => ∃ t u v, h.get? a = some { cls := .type "range", data := .fields #[.int lo t, .int hi u, .int 1 v] }
  | .frz o u => h.get? a = some o ∧ ObjOk H h a u
  | .tbl ps => h.get? a = some { cls := .none, data := .fields ps }
  | .met f x => h.get? a = some (PySem.W.methodObj (.ref f) (.ref x))
  | .ext φ => φ h ∧ (∃ o, h.get? a = some o) ∧ ∀ h1 h2 : Heap, φ h1 → (∀ o, h1.get? a = some o → h2.get? a = some o) → φ h2
noncomputable def HOk (H : Hp) (h : Heap) : Prop := ∀ a o, H a = some o → ObjOk P w H h a o
end
section
variable {P : Program} {w : World} {H H' : Hp} {h h' : Heap} {a : Addr} {o : HO}
theorem ObjOk.lt (x : ObjOk P w H h a o) : a < h.objs.size := by
  cases o with
  | lst xs => obtain ⟨_, _, _, _, e⟩ := x; exact Heap.lt_size e
  | tup xs => obtain ⟨_, _, _, p⟩ := x; exact p.lt
  | dK kvs => obtain ⟨_, _, _, _, o, _, _, e, _⟩ := x; exact Heap.lt_size e
  | dT kvs => obtain ⟨_, _, _, _, o, _, _, e, _⟩ := x; exact Heap.lt_size e
  | set S n => obtain ⟨o, _, _, _, e, _⟩ := x; exact Heap.lt_size e
  | ins C dx fs => obtain ⟨_, _, _, e, _⟩ := x; exact Heap.lt_size e
  | own y => obtain ⟨_, e⟩ := x; exact Heap.lt_size e
  | xd fs => obtain ⟨_, ⟨_, _, _, e, _⟩, _⟩ := x; exact Heap.lt_size e
  | rng lo hi => obtain ⟨_, _, _, e⟩ := x; exact Heap.lt_size e
  | frz ob u => obtain ⟨e, _⟩ := x; exact Heap.lt_size e
  | tbl ps => exact Heap.lt_size (show h.get? a = some _ from x)
  | met f y => exact Heap.lt_size (show h.get? a = some _ from x)
  | ext φ => obtain ⟨_, ⟨_, e⟩, _⟩ := x; exact Heap.lt_size e
theorem Paired.mapP {α β : Type} {F G : α → β → Prop} : ∀ {l₁ : List α} {l₂ : List β}, Paired F l₁ l₂ → (∀ a b, F a b → G a b) → Paired G l₁ l₂
  | _, _, .nil, _ => .nil
  | _, _, .cons r t, f => .cons (f _ _ r) (Paired.mapP t f)
theorem ObjOk.stay (x : ObjOk P w H h a o) (k : ∀ b u, (b = a ∨ H b = some (.own a)) → h.get? b = some u → h'.get? b = some u)
    (ho : ∀ b, H b = some (.own a) → H' b = some (.own a)) (ht : ∀ b xs, H b = some (.tup xs) → H' b = some (.tup xs)) : ObjOk P w H' h' a o := by
  induction o with
  | lst xs => obtain ⟨z, its, n, r, e⟩ := x; exact ⟨z, its, n, r, k _ _ (.inl rfl) e⟩
  | tup xs => obtain ⟨z, its, r, ob, e, c⟩ := x; exact ⟨z, its, r, ob, k _ _ (.inl rfl) e, c⟩
  | dK kvs => obtain ⟨z, y, vs, r, ob, es, ep, e, c⟩ := x; exact ⟨z, y, vs, r, ob, es, ep, k _ _ (.inl rfl) e, c⟩
  | dT kvs =>
    obtain ⟨z, y, xs, r, ob, es, ep, e, c⟩ := x
    exact ⟨z, y, xs, Paired.mapP r fun p q z => ⟨z.1, ht _ _ z.2.1, z.2.2⟩, ob, es, ep, k _ _ (.inl rfl) e, c⟩
  | set S n => obtain ⟨ob, es, ep, t, e, c⟩ := x; exact ⟨ob, es, ep, t, k _ _ (.inl rfl) e, c⟩
  | ins C dx fs =>
    obtain ⟨d, z, ne, e, mA, ⟨od, es, ep, e2, c⟩, r⟩ := x
    exact ⟨ho _ d, z, ne, k _ _ (.inl rfl) e, mA, ⟨od, es, ep, k _ _ (.inr d) e2, c⟩, r⟩
  | own y => obtain ⟨ob, e⟩ := x; exact ⟨ob, k _ _ (.inl rfl) e⟩
  | xd fs => obtain ⟨mA, ⟨od, es, ep, e, c⟩, r⟩ := x; exact ⟨mA, ⟨od, es, ep, k _ _ (.inl rfl) e, c⟩, r⟩
  | rng lo hi => obtain ⟨t, u, v, e⟩ := x; exact ⟨t, u, v, k _ _ (.inl rfl) e⟩
  | frz ob u ih => obtain ⟨e, q⟩ := x; exact ⟨k _ _ (.inl rfl) e, ih q⟩
  | tbl ps =>
    have e : h.get? a = some { cls := .none, data := .fields ps } := x
    show h'.get? a = some { cls := .none, data := .fields ps }
    exact k a _ (.inl rfl) e
  | met f y =>
    have e : h.get? a = some (PySem.W.methodObj (.ref f) (.ref y)) := x
    show h'.get? a = some (PySem.W.methodObj (.ref f) (.ref y))
    exact k a _ (.inl rfl) e
  | ext φ => obtain ⟨p, ⟨o, e⟩, st⟩ := x; exact ⟨st _ _ p fun o q => k _ _ (.inl rfl) q, ⟨o, k _ _ (.inl rfl) e⟩, st⟩
theorem HOk.lt (x : HOk P w H h) (e : H a = some o) : a < h.objs.size := (x a o e).lt
theorem HOk.fresh (x : HOk P w H h) (e : h.objs.size ≤ a) : H a = none := by
  cases q : H a with
  | none => rfl
  | some u => exact absurd (Nat.lt_of_lt_of_le (x.lt q) e) (Nat.lt_irrefl _)
theorem HOk.kept (x : HOk P w H h) (k : ∀ b u, h.get? b = some u → h'.get? b = some u) : HOk P w H h' := fun a o e =>
  (x a o e).stay (fun b u _ q => k b u q) (fun _ q => q) fun _ _ q => q
theorem HOk.laid (x : HOk P w H h) (k : ∀ b u, h.get? b = some u → h'.get? b = some u) (hp : h.objs.size ≤ a) (new : ObjOk P w (upd H a o) h' a o) : HOk P w (upd H a o) h' := fun b u e => by
  have hn := x.fresh hp
  by_cases hb : b = a
  · subst hb; rw [upd_same] at e; cases e; exact new
  · rw [upd_ne hb] at e
    exact (x b u e).stay (fun c v _ q => k c v q) (fun c q => by rw [upd_ne (ne_of_none q hn)]; exact q) fun c xs q => by rw [upd_ne (ne_of_none q hn)]; exact q
end
noncomputable def Rd (H : Hp) (a : Addr) (u : HO) : Prop := H a = some u ∨ ∃ o, H a = some (.frz o u)
theorem Rd.ok {P : Program} {w : World} {H : Hp} {h : Heap} {a : Addr} {u : HO} (r : Rd H a u) (x : HOk P w H h) : ObjOk P w H h a u := by
  rcases r with r | ⟨o, r⟩
  · exact x a u r
  · obtain ⟨_, q⟩ := x a _ r
    exact q
noncomputable def Mut : Option HO → Prop
  | some (.lst _) => True
  | some (.dK _) => True
  | some (.dT _) => True
  | some (.set _ _) => True
  | some (.ins _ _ _) => True
  | some (.ext _) => True
  | _ => False
section
variable {P : Program} {w : World} {H : Hp} {h h' : Heap} {x e : Addr} {o' : HO}
theorem HOk.write (ok : HOk P w H h) (mu : Mut (H x)) (he : e = x ∨ H e = some (.own x)) (k : ∀ b u, b ≠ e → h.get? b = some u → h'.get? b = some u) (heo : ∃ u, h'.get? e = some u)
    (new : ObjOk P w (upd H x o') h' x o') : HOk P w (upd H x o') h' := fun b u q => by
  have nown : ∀ c y, H c = some (.own y) → c ≠ x := fun c y r z => by subst z; rw [r] at mu; exact mu
  have ntup : ∀ c xs, H c = some (.tup xs) → c ≠ x := fun c xs r z => by subst z; rw [r] at mu; exact mu
  by_cases hb : b = x
  · subst hb; rw [upd_same] at q; cases q; exact new
  · rw [upd_ne hb] at q
    by_cases hbe : b = e
    · have q' : H b = some (.own x) := by
        rcases he with z | z
        · exact absurd (hbe.trans z) hb
        · rw [hbe]; exact z
      rw [q] at q'; cases q'
      obtain ⟨v, hv⟩ := heo
      exact ⟨v, by rw [hbe]; exact hv⟩
    · refine (ok b u q).stay (fun c v hc r => k c v ?_ r) (fun c r => by rw [upd_ne (nown c b r)]; exact r) fun c xs r => by rw [upd_ne (ntup c xs r)]; exact r
      rcases hc with rfl | hc
      · exact hbe
      · rintro rfl
        rcases he with z | z
        · exact nown c b hc z
        · rw [hc] at z; cases z; exact hb rfl
end
structure Un (fs ex : List Addr) (H H' : Hp) (h h' : Heap) : Prop where
  keep : ∀ b o, h.get? b = some o → H b = none → b ∉ fs → b ∉ ex → h'.get? b = some o
  slot : ∀ b o, h.get? b = some o → H b = none → b ∈ fs → b ∉ ex → ∃ sl, h'.get? b = some { o with slots := sl }
  free : ∀ b o, h.get? b = some o → H b = none → b ∉ ex → H' b = none
  there : ∀ b o, h.get? b = some o → b ∉ ex → ∃ o', h'.get? b = some o'
  tups : ∀ b xs, H b = some (.tup xs) → H' b = some (.tup xs)
  frzs : ∀ b o u, H b = some (.frz o u) → H' b = some (.frz o u)
  tbls : ∀ b ps, H b = some (.tbl ps) → ∃ more, H' b = some (.tbl (ps ++ more))
section
variable {fs fs' ex ex' : List Addr} {H H1 H2 : Hp} {h h1 h2 h' : Heap} {a x e : Addr} {o : HO}
theorem Un.any (u : Un fs ex H H1 h h1) {b : Addr} {ob : Obj} (q : h.get? b = some ob) (n : H b = none) (hx : b ∉ ex) : ∃ sl, h1.get? b = some { ob with slots := sl } := by
  by_cases hb : b ∈ fs
  · exact u.slot b ob q n hb hx
  · exact ⟨ob.slots, u.keep b ob q n hb hx⟩
theorem Un.kept (k : ∀ b u, h.get? b = some u → h'.get? b = some u) : Un fs ex H H h h' :=
  ⟨fun b ob q _ _ _ => k b ob q, fun b ob q _ _ _ => ⟨ob.slots, k b ob q⟩, fun _ _ _ n _ => n, fun b ob q _ => ⟨ob, k b ob q⟩, fun _ _ q => q, fun _ _ _ q => q, fun _ ps q => ⟨#[], by rw [q]; simp⟩⟩
theorem Un.refl : Un fs ex H H h h := Un.kept fun _ _ q => q
theorem Un.laid (k : ∀ b u, h.get? b = some u → h'.get? b = some u) (hp : h.objs.size ≤ a) (hn : H a = none) : Un fs ex H (upd H a o) h h' where
  keep := fun b u q _ _ _ => k b u q
  slot := fun b u q _ _ _ => ⟨u.slots, k b u q⟩
  free := fun b u q n _ => by rw [upd_ne (Nat.ne_of_lt (Nat.lt_of_lt_of_le (Heap.lt_size q) hp))]; exact n
  there := fun b u q _ => ⟨u, k b u q⟩
  tups := fun b xs q => by rw [upd_ne (ne_of_none q hn)]; exact q
  frzs := fun b u xs q => by rw [upd_ne (ne_of_none q hn)]; exact q
  tbls := fun b ps q => ⟨#[], by rw [upd_ne (ne_of_none q hn), q]; simp⟩
theorem Un.write (mu : Mut (H x)) (he : e = x ∨ H e = some (.own x)) (k : ∀ b u, b ≠ e → h.get? b = some u → h'.get? b = some u) (heo : ∃ u, h'.get? e = some u) : Un fs ex H (upd H x o) h h' := by
  have hx : ∀ b, H b = none → b ≠ x := fun b n z => by subst z; rw [n] at mu; exact mu
  have hb : ∀ b, H b = none → b ≠ e := fun b n z => by
    subst z
    rcases he with r | r
    · exact hx b n r
    · rw [n] at r; cases r
  have hm : ∀ b u, H b = some u → ¬ Mut (some u) → b ≠ x := fun b u q nm z => by subst z; rw [q] at mu; exact nm mu
  refine ⟨fun b u q n _ _ => k b u (hb b n) q, fun b u q n _ _ => ⟨u.slots, k b u (hb b n) q⟩, fun b u q n _ => by rw [upd_ne (hx b n)]; exact n, fun b u q _ => ?_,
    fun b xs q => by rw [upd_ne (hm b _ q fun z => z)]; exact q, fun b u xs q => by rw [upd_ne (hm b _ q fun z => z)]; exact q, fun b ps q => ⟨#[], by rw [upd_ne (hm b _ q fun z => z), q]; simp⟩⟩
  by_cases hbe : b = e
  · subst hbe; exact heo
  · exact ⟨u, k b u hbe q⟩
end
noncomputable def trk (h : Heap) (H : Hp) : List Addr := (List.range h.objs.size).filter fun a => (H a).isSome
noncomputable def hidT (h : Heap) (H : Hp) : Heap := PySem.W.hideAll h (trk h H)
theorem hidT_size (h : Heap) (H : Hp) : (hidT h H).objs.size = h.objs.size := PySem.W.hideAll_size _ _
theorem hidT_get {h : Heap} {H : Hp} {b : Addr} {o : Obj} (e : h.get? b = some o) (n : H b = none) : (hidT h H).get? b = some o :=
  PySem.W.hideAll_get _ e fun hm => by
    have q : (H b).isSome = true := (List.mem_filter.mp hm).2
    rw [n] at q; simp at q
theorem of_hidT {h : Heap} {H : Hp} {b : Addr} {o : Obj} (e : (hidT h H).get? b = some o) : h.get? b = some o ∧ H b = none := by
  have e' : h.get? b = some o := PySem.W.of_hideAll (trk h H) e
  refine ⟨e', ?_⟩
  cases q : H b with
  | none => rfl
  | some x =>
    have hm : b ∈ trk h H := List.mem_filter.mpr ⟨List.mem_range.mpr (Heap.lt_size e'), by simp [q]⟩
    have z : (hidT h H).get? b = none := PySem.W.hideAll_none (trk h H) hm
    rw [z] at e; cases e
end L2
namespace L2
open PySem PySem.Spec PyProof.Rows
structure Mod (K : PySem.W.Frag) (mg : Str → Option Value) (base : Heap) : Prop where
  kin : K.In base
  glob : base.Ns mainGlobals mg
  blt : ∃ mb, base.Ns builtinsNs mb ∧ ∀ x : Str, x ≠ "__name__" → mb x = bootBuiltins x
  nolimit : base.NoLimit
structure Cx where
  prog : Program
  w : World
  K : PySem.W.Frag
  mg : Str → Option Value
  base : Heap
  A : Around
  N : List Str
  s₀ : Shared
  H₀ : Hp
  env : Env
  outer : List Env
  stack : List Env
  ex : List Addr
  fn : Str → Bool
  calm : Bool
  pn : List (Addr × Obj)
  xe : Value → Shared → Prop
noncomputable def frs (l : List Env) : List Addr := l.filterMap (·.frame)
noncomputable abbrev Cx.fs (X : Cx) : List Addr := frs X.outer
noncomputable def Vis (sc : Scope) (x : Str) : Prop := sc.names.lookup x = some .local ∨ sc.names.lookup x = some .cell ∨ sc.names.lookup x = some .free
noncomputable def Loc (sc : Scope) (x : Str) : Prop := sc.names.lookup x = some .local ∨ sc.names.lookup x = some .cell
noncomputable def Look (env : Env) (h : Heap) (m : Str → Option Value) (x : Str) (u : Value) : Prop :=
  (env.kindOf x = some .local ∧ m x = some u) ∨ ((env.kindOf x = some .cell ∨ env.kindOf x = some .free) ∧ ∃ c, env.cells.lookup x = some c ∧ h.IsCell c (some u))
structure Cx.Ok (X : Cx) : Prop where
  mod : Mod X.K X.mg X.base
  kind : X.env.scope.kind = .function
  glob : X.env.globals = mainGlobals
  blt : X.env.builtins = builtinsNs
  above : X.s₀.heap.objs.size ≤ X.env.locals
  inj : ∀ x y c, X.env.cells.lookup x = some c → X.env.cells.lookup y = some c → x = y
  has : ∀ x, (X.env.kindOf x = some .cell ∨ X.env.kindOf x = some .free) → ∃ c, X.env.cells.lookup x = some c
  cab : ∀ x c, X.fn x = true → X.env.cells.lookup x = some c → X.s₀.heap.objs.size ≤ c
  hd : X.calm = true → X.A.handled = none
  frames : X.A.frames = some X.stack
  stk : X.stack = X.outer ∨ (X.stack = X.env :: X.outer ∧ X.env.frame = some X.env.locals)
  exf : ∀ b ∈ X.ex, b ≠ X.env.locals ∧ ∀ x c, X.env.cells.lookup x = some c → c ≠ b
  bs : ∀ b o, X.base.get? b = some o → X.s₀.heap.get? b = some o ∧ X.H₀ b = none
  bsz : X.base.objs.size ≤ X.s₀.heap.objs.size
  noex : ∀ b o, X.base.get? b = some o → b ∉ X.ex
  exfs : ∀ b ∈ X.ex, b ∉ X.fs
  funs : X.s₀.heap.FunFrames X.base X.outer
  frf : ∀ b ∈ X.fs, X.H₀ b = none
structure Inv (X : Cx) (pins : List (Addr × Obj)) (σ : List (Option V)) (H : Hp) (s : Shared) : Prop where
  ok : X.Ok
  os : s.os = X.s₀.os
  bare : AllBare s.gens
  base : Un X.fs X.ex X.H₀ H X.s₀.heap s.heap
  loc : ∃ m, s.heap.Ns X.env.locals m ∧ ∀ (i : Nat) (x : Str) (v : V), X.N[i]? = some x → σ[i]? = some (some v) → Vis X.env.scope x → ∃ u, RelV v u ∧ Look X.env s.heap m x u
  cell : ∀ x c, X.env.cells.lookup x = some c → ∃ v, s.heap.IsCell c v
  free : H X.env.locals = none
  freeC : ∀ x c, X.env.cells.lookup x = some c → H c = none
  pin : ∀ p ∈ X.pn ++ pins, s.heap.get? p.1 = some p.2 ∧ H p.1 = none ∧ p.1 ≠ X.env.locals ∧ p.1 ∉ X.fs ∧ ∀ v, p.2.data ≠ .cell v
  hok : HOk X.prog X.w H s.heap
  len : σ.length = X.N.length
section
variable {X : Cx} {pins : List (Addr × Obj)} {σ : List (Option V)} {H H' : Hp} {s : Shared} {h' : Heap}
theorem Cx.Ok.nofr (ok : X.Ok) {b : Addr} {o : Obj} (e : X.base.get? b = some o) : b ∉ X.fs := fun hb => by
  have := (ok.funs.mem hb).1
  rw [e] at this; cases this
theorem Inv.bs (I : Inv X pins σ H s) : ∀ b o, X.base.get? b = some o → s.heap.get? b = some o ∧ H b = none := fun b o e =>
  ⟨I.base.keep b o (I.ok.bs b o e).1 (I.ok.bs b o e).2 (I.ok.nofr e) (I.ok.noex b o e), I.base.free b o (I.ok.bs b o e).1 (I.ok.bs b o e).2 (I.ok.noex b o e)⟩
theorem Inv.bk (I : Inv X pins σ H s) : ∀ b o, X.base.get? b = some o → s.heap.get? b = some o := fun b o e => (I.bs b o e).1
theorem Inv.mod (I : Inv X pins σ H s) : Mod X.K X.mg X.base := I.ok.mod
theorem Inv.kIn (I : Inv X pins σ H s) : X.K.In s.heap := I.ok.mod.kin.keeps I.bk
theorem Inv.lt (I : Inv X pins σ H s) : X.env.locals < s.heap.objs.size := let ⟨_, hn, _⟩ := I.loc; hn.lt
theorem Inv.sz (I : Inv X pins σ H s) : X.s₀.heap.objs.size ≤ s.heap.objs.size := Nat.le_trans I.ok.above (Nat.le_of_lt I.lt)
theorem Inv.nofs (I : Inv X pins σ H s) {a : Addr} (h : s.heap.objs.size ≤ a) : a ∉ X.fs := fun hb => by
  obtain ⟨_, o, ho, _⟩ := I.ok.funs.mem hb
  exact absurd (Nat.lt_of_lt_of_le (Heap.lt_size ho) (Nat.le_trans I.sz h)) (Nat.lt_irrefl _)
theorem Inv.cne (I : Inv X pins σ H s) : ∀ x c, X.env.cells.lookup x = some c → c ≠ X.env.locals := fun x c e z => by
  obtain ⟨v, o, ho, hd⟩ := I.cell x c e
  obtain ⟨m, ⟨o', es, ep, ho', hd', _⟩, _⟩ := I.loc
  rw [z, ho'] at ho; cases ho; rw [hd'] at hd; cases hd
theorem Inv.funs (I : Inv X pins σ H s) : s.heap.FunFrames X.base X.outer := by
  have all : ∀ (l : List Env), (∀ b ∈ frs l, b ∈ X.fs) → X.s₀.heap.FunFrames X.base l → s.heap.FunFrames X.base l := by
    intro l
    induction l with
    | nil => intro _ _; trivial
    | cons env r ih =>
      intro hs hl
      obtain ⟨hk, ⟨L, o, hf, hn, ho, hd⟩, hr⟩ := hl
      have hL : L ∈ X.fs := hs L (by unfold frs; rw [List.filterMap_cons, hf]; exact List.mem_cons_self)
      obtain ⟨sl, e⟩ := I.base.slot L o ho (I.ok.frf L hL) hL fun z => I.ok.exfs L z hL
      exact ⟨hk, ⟨L, _, hf, hn, e, hd⟩, ih (fun b hb => hs b (by unfold frs; rw [List.filterMap_cons, hf]; exact List.mem_cons_of_mem _ hb)) hr⟩
  exact all X.outer (fun _ hb => hb) I.ok.funs
theorem Inv.stack (I : Inv X pins σ H s) : s.heap.FunFrames X.base X.stack := by
  rcases I.ok.stk with e | ⟨e, hf⟩
  · rw [e]; exact I.funs
  · rw [e]
    obtain ⟨m, hn, _⟩ := I.loc
    refine .cons (by rw [I.ok.kind]; decide) hf hn ?_ I.funs
    exact Heap.get?_none_of_le (Nat.le_trans I.ok.bsz I.ok.above)
theorem Inv.stkSub (I : Inv X pins σ H s) : ∀ b ∈ frs X.stack, b ∈ X.env.locals :: X.fs := fun b hb => by
  rcases I.ok.stk with e | ⟨e, hf⟩
  · rw [e] at hb; exact List.mem_cons_of_mem _ hb
  · rw [e] at hb
    unfold frs at hb
    rw [List.filterMap_cons, hf] at hb
    exact hb
theorem Inv.stkFree (I : Inv X pins σ H s) : ∀ b ∈ frs X.stack, H b = none := fun b hb => by
  rcases List.mem_cons.mp (I.stkSub b hb) with e | hb
  · rw [e]; exact I.free
  · obtain ⟨_, o, ho, _⟩ := I.ok.funs.mem hb
    exact I.base.free b o ho (I.ok.frf b hb) fun z => I.ok.exfs b z hb
theorem Inv.step {g' : Array GenState} {t' : Nat} {d' : Drawn} {ch : List Addr} (I : Inv X pins σ H s)
    (hch : ∀ b ∈ ch, (b ∈ X.ex ∨ X.s₀.heap.objs.size ≤ b) ∧ b ≠ X.env.locals ∧ (∀ x c, X.env.cells.lookup x = some c → c ≠ b) ∧ ∀ p ∈ X.pn ++ pins, p.1 ≠ b)
    (keep : ∀ b o, b ≠ X.env.locals → b ∉ X.fs → b ∉ ch → s.heap.get? b = some o → H b = none → h'.get? b = some o)
    (slot : ∀ b o, b ≠ X.env.locals → b ∈ X.fs → b ∉ ch → s.heap.get? b = some o → H b = none → ∃ sl, h'.get? b = some { o with slots := sl }) (free : ∀ b o, b ∉ ch → s.heap.get? b = some o → H b = none → H' b = none)
    (there : ∀ b o, b ∉ ch → s.heap.get? b = some o → ∃ o', h'.get? b = some o')
    (tups : ∀ b xs, H b = some (.tup xs) → H' b = some (.tup xs)) (frzs : ∀ b o u, H b = some (.frz o u) → H' b = some (.frz o u)) (tbls : ∀ b ps, H b = some (.tbl ps) → ∃ more, H' b = some (.tbl (ps ++ more)))
    (ns : ∀ m, s.heap.Ns X.env.locals m → h'.Ns X.env.locals m) (hok : HOk X.prog X.w H' h') (hg : AllBare g') :
    Inv X pins σ H' { s with heap := h', gens := g', drawn := d', toks := t' } := by
  have neL : ∀ b o, X.s₀.heap.get? b = some o → b ≠ X.env.locals := fun b o e => Nat.ne_of_lt (Nat.lt_of_lt_of_le (Heap.lt_size e) I.ok.above)
  have neC : ∀ b o, X.s₀.heap.get? b = some o → b ∉ X.ex → b ∉ ch := fun b o e hx hb => by
    rcases (hch b hb).1 with z | z
    · exact hx z
    · exact absurd (Nat.lt_of_lt_of_le (Heap.lt_size e) z) (Nat.lt_irrefl _)
  have cellK : ∀ x c, X.env.cells.lookup x = some c → ∀ v, s.heap.IsCell c v → h'.IsCell c v := fun x c e v ⟨o, ho, hd⟩ => by
    have nch : c ∉ ch := fun z => (hch c z).2.2.1 x c e rfl
    by_cases hc : c ∈ X.fs
    · obtain ⟨sl, q⟩ := slot c o (I.cne x c e) hc nch ho (I.freeC x c e)
      exact ⟨_, q, hd⟩
    · exact ⟨o, keep c o (I.cne x c e) hc nch ho (I.freeC x c e), hd⟩
  refine ⟨I.ok, I.os, hg, ⟨fun b o e n hb hx => ?_, fun b o e n hb hx => ?_, fun b o e n hx => ?_, fun b o e hx => ?_, fun b xs e => tups b xs (I.base.tups b xs e), fun b o xs e => frzs b o xs (I.base.frzs b o xs e), fun b ps e => ?_⟩, ?_, fun x c e => ?_, ?_, fun x c e => ?_, fun p hp => ?_, hok, I.len⟩
  · exact keep b o (neL b o e) hb (neC b o e hx) (I.base.keep b o e n hb hx) (I.base.free b o e n hx)
  · obtain ⟨sl, e1⟩ := I.base.slot b o e n hb hx
    obtain ⟨sl', e2⟩ := slot b _ (neL b o e) hb (neC b o e hx) e1 (I.base.free b o e n hx)
    exact ⟨sl', e2⟩
  · obtain ⟨o', e1⟩ := I.base.there b o e hx
    exact free b o' (neC b o e hx) e1 (I.base.free b o e n hx)
  · obtain ⟨o', e1⟩ := I.base.there b o e hx
    exact there b o' (neC b o e hx) e1
  · obtain ⟨m1, e1⟩ := I.base.tbls b ps e
    obtain ⟨m2, e2⟩ := tbls b _ e1
    exact ⟨m1 ++ m2, by rw [e2, Array.append_assoc]⟩
  · obtain ⟨m, hn, hl⟩ := I.loc
    refine ⟨m, ns m hn, fun i x v e1 e2 e3 => ?_⟩
    obtain ⟨u, r, l⟩ := hl i x v e1 e2 e3
    refine ⟨u, r, ?_⟩
    rcases l with l | ⟨k, c, e, z⟩
    · exact .inl l
    · exact .inr ⟨k, c, e, cellK x c e _ z⟩
  · obtain ⟨v, z⟩ := I.cell x c e
    exact ⟨v, cellK x c e v z⟩
  · obtain ⟨m, ⟨o, _, _, ho, _⟩, _⟩ := I.loc
    exact free _ o (fun z => (hch _ z).2.1 rfl) ho I.free
  · obtain ⟨v, o, ho, hd⟩ := I.cell x c e
    exact free c o (fun z => (hch c z).2.2.1 x c e rfl) ho (I.freeC x c e)
  · obtain ⟨e, n, ne, nf, d⟩ := I.pin p hp
    have nch : p.1 ∉ ch := fun z => (hch p.1 z).2.2.2 p hp rfl
    exact ⟨keep p.1 p.2 ne nf nch e n, free p.1 p.2 nch e n, ne, nf, d⟩
theorem Inv.un {t' : Nat} (I : Inv X pins σ H s) (u : Un X.fs [] H H' s.heap h') (hok : HOk X.prog X.w H' h') : Inv X pins σ H' { s with heap := h', toks := t' } := by
  obtain ⟨m, ⟨o, es, ep, ho, r⟩, _⟩ := id I.loc
  obtain ⟨sl, hL⟩ := u.any ho I.free (by simp)
  exact I.step (g' := s.gens) (d' := s.drawn) (ch := []) (fun _ z => nomatch z) (fun b o _ hb _ e n => u.keep b o e n hb (by simp)) (fun b o _ hb _ e n => u.slot b o e n hb (by simp)) (fun b o _ e n => u.free b o e n (by simp)) (fun b o _ e => u.there b o e (by simp)) u.tups u.frzs u.tbls (fun m' hm => by
    obtain ⟨o', es', ep', ho', r'⟩ := hm
    rw [ho] at ho'; cases ho'
    exact ⟨_, es', ep', hL, r'⟩) hok I.bare
theorem Inv.call {g' : Array GenState} {t' : Nat} {d' : Drawn} {ch : List Addr} (I : Inv X pins σ H s) (u : Un (frs X.stack) ch H H' s.heap h') (hok : HOk X.prog X.w H' h') (hg : AllBare g')
    (hch : ∀ b ∈ ch, (b ∈ X.ex ∨ X.s₀.heap.objs.size ≤ b) ∧ b ≠ X.env.locals ∧ (∀ x c, X.env.cells.lookup x = some c → c ≠ b) ∧ ∀ p ∈ X.pn ++ pins, p.1 ≠ b) :
    Inv X pins σ H' { s with heap := h', gens := g', drawn := d', toks := t' } := by
  obtain ⟨m, ⟨o, es, ep, ho, r⟩, _⟩ := id I.loc
  obtain ⟨sl, hL⟩ := u.any ho I.free fun z => (hch _ z).2.1 rfl
  exact I.step (ch := ch) hch (fun b o hL hb hc e n => u.keep b o e n (fun z => (List.mem_cons.mp (I.stkSub b z)).elim hL hb) hc) (fun b o _ _ hc e n => u.any e n hc) (fun b o hc e n => u.free b o e n hc) (fun b o hc e => u.there b o e hc) u.tups u.frzs u.tbls (fun m' hm => by
    obtain ⟨o', es', ep', ho', r'⟩ := hm
    rw [ho] at ho'; cases ho'
    exact ⟨_, es', ep', hL, r'⟩) hok hg
theorem Inv.turned {t' : Nat} {it : Addr} (I : Inv X pins σ H s) (k : ∀ b o, b ≠ it → s.heap.get? b = some o → h'.get? b = some o) (hn : H it = none) (hL : it ≠ X.env.locals)
    (h1 : it ∈ X.ex ∨ X.s₀.heap.objs.size ≤ it) (h2 : ∀ x c, X.env.cells.lookup x = some c → c ≠ it) (h3 : ∀ p ∈ X.pn ++ pins, p.1 ≠ it) : Inv X pins σ H { s with heap := h', toks := t' } := by
  have nit : ∀ b u, H b = some u → b ≠ it := fun b u e z => by rw [z, hn] at e; cases e
  refine I.step (g' := s.gens) (d' := s.drawn) (ch := [it]) (fun b hb => ?_) (fun b o _ _ hc e _ => k b o (fun z => hc (by simp [z])) e) (fun b o _ _ hc e _ => ⟨o.slots, k b o (fun z => hc (by simp [z])) e⟩) (fun _ _ _ _ n => n)
    (fun b o hc e => ⟨o, k b o (fun z => hc (by simp [z])) e⟩) (fun _ _ e => e) (fun _ _ _ e => e) (fun b ps e => ⟨#[], by rw [e]; simp⟩) (fun m hm => ?_) (fun b u e => ?_) I.bare
  · have e : b = it := by simpa using hb
    subst e
    exact ⟨h1, hL, h2, h3⟩
  · obtain ⟨o, es, ep, ho, r⟩ := hm
    exact ⟨o, es, ep, k _ o (Ne.symm hL) ho, r⟩
  · refine (I.hok b u e).stay (fun c v hc q => k c v ?_ q) (fun _ q => q) fun _ _ q => q
    rcases hc with z | z
    · rw [z]; exact nit b u e
    · exact nit c _ z
theorem Inv.tok (I : Inv X pins σ H s) (t : Nat) : Inv X pins σ H { s with toks := t } := I.un (h' := s.heap) (t' := t) Un.refl I.hok
theorem Inv.kept {t' : Nat} (I : Inv X pins σ H s) (k : ∀ b u, s.heap.get? b = some u → h'.get? b = some u) : Inv X pins σ H { s with heap := h', toks := t' } := I.un (Un.kept k) (I.hok.kept k)
theorem Inv.laid {a : Addr} {o : HO} {t' : Nat} (I : Inv X pins σ H s) (k : ∀ b u, s.heap.get? b = some u → h'.get? b = some u) (hp : s.heap.objs.size ≤ a) (new : ObjOk X.prog X.w (upd H a o) h' a o) :
    Inv X pins σ (upd H a o) { s with heap := h', toks := t' } := I.un (Un.laid k hp (I.hok.fresh hp)) (I.hok.laid k hp new)
theorem Inv.write {x e : Addr} {o : HO} {t' : Nat} (I : Inv X pins σ H s) (mu : Mut (H x)) (he : e = x ∨ H e = some (.own x)) (k : ∀ b u, b ≠ e → s.heap.get? b = some u → h'.get? b = some u) (heo : ∃ u, h'.get? e = some u)
    (new : ObjOk X.prog X.w (upd H x o) h' x o) : Inv X pins σ (upd H x o) { s with heap := h', toks := t' } := I.un (Un.write mu he k heo) (I.hok.write mu he k heo new)
theorem Inv.pins_of {pins' : List (Addr × Obj)} (I : Inv X pins σ H s) (h : ∀ p ∈ pins', s.heap.get? p.1 = some p.2 ∧ H p.1 = none ∧ p.1 ≠ X.env.locals ∧ p.1 ∉ X.fs ∧ ∀ v, p.2.data ≠ .cell v) : Inv X pins' σ H s :=
  ⟨I.ok, I.os, I.bare, I.base, I.loc, I.cell, I.free, I.freeC, fun p hp => (List.mem_append.mp hp).elim (fun z => I.pin p (List.mem_append_left _ z)) (h p), I.hok, I.len⟩
theorem nodup_ix {N : List Str} (hN : N.Nodup) {i j : Nat} {x : Str} (a : N[i]? = some x) (b : N[j]? = some x) : i = j := by
  obtain ⟨h1, e1⟩ := List.getElem?_eq_some_iff.mp a
  obtain ⟨h2, e2⟩ := List.getElem?_eq_some_iff.mp b
  exact (List.getElem_inj hN).mp (e1.trans e2.symm)
theorem store_ok2 {M : Model} {A : Around} {E : Value → Shared → Prop} {i : Nat} {x : Str} {v : V} {u : Value} {Q : Unit → Shared → Prop} (I : Inv X pins σ H s) (hN : X.N.Nodup) (hi : X.N[i]? = some x) (hx : Loc X.env.scope x) (r : RelV v u)
    (h : ∀ s', Inv X pins (σ.set i (some v)) H s' → (∃ a, Heap.SameBut a s.heap s'.heap ∧ (a = X.env.locals ∨ X.env.cells.lookup x = some a)) → Q () s') (hf : X.fn x = true ∨ X.env.scope.names.lookup x = some .local := by first | exact .inl rfl | exact .inr rfl | assumption) : wpAny M A (storeName X.env x u) Q E s := by
  obtain ⟨m, hn, hl⟩ := id I.loc
  have hcls : (X.env.scope.kind == .class || (X.env.scope.kind == .module && X.env.locals != X.env.globals)) = false := by rw [I.ok.kind]; rfl
  have hiσ : i < σ.length := by rw [I.len]; exact (List.getElem?_eq_some_iff.mp hi).1
  have cne := I.cne
  have tracked : ∀ {a : Addr} {h' : Heap}, (∃ o, s.heap.get? a = some o ∧ H a = none) → Heap.SameBut a s.heap h' → HOk X.prog X.w H h' := fun {a h'} ha hs b ob e => by
    obtain ⟨_, _, hfree⟩ := ha
    refine (I.hok b ob e).stay (fun c w' hc q => (hs.2 c ?_).trans q) (fun _ q => q) fun _ _ q => q
    rintro rfl
    rcases hc with rfl | hc
    · rw [hfree] at e; cases e
    · rw [hfree] at hc; cases hc
  rcases hx with hk | hk
  · refine wpAny_storeName_local hk hn (fun h' hn' hs => ?_) hcls
    obtain ⟨oL, _, _, hoL, _⟩ := id hn
    refine h _ ⟨I.ok, I.os, I.bare, ⟨fun b o e n hb hx => ?_, fun b o e n hb hx => ?_, I.base.free, fun b o e hx => ?_, I.base.tups, I.base.frzs, I.base.tbls⟩, ⟨_, hn', fun j y v' e1 e2 e3 => ?_⟩, fun y c e => ?_, I.free, I.freeC, fun p hp => ?_, tracked ⟨oL, hoL, I.free⟩ hs, by simpa using I.len⟩ ⟨_, hs, .inl rfl⟩
    · exact (hs.2 b (Nat.ne_of_lt (Nat.lt_of_lt_of_le (Heap.lt_size e) I.ok.above))).trans (I.base.keep b o e n hb hx)
    · obtain ⟨sl, e1⟩ := I.base.slot b o e n hb hx
      exact ⟨sl, (hs.2 b (Nat.ne_of_lt (Nat.lt_of_lt_of_le (Heap.lt_size e) I.ok.above))).trans e1⟩
    · obtain ⟨o', e1⟩ := I.base.there b o e hx
      exact ⟨o', (hs.2 b (Nat.ne_of_lt (Nat.lt_of_lt_of_le (Heap.lt_size e) I.ok.above))).trans e1⟩
    · by_cases hj : j = i
      · subst hj
        rw [hi] at e1; cases e1
        rw [List.getElem?_set_self hiσ] at e2
        cases e2
        exact ⟨u, r, .inl ⟨hk, by simp⟩⟩
      · rw [List.getElem?_set_ne (Ne.symm hj)] at e2
        obtain ⟨u', r', q⟩ := hl j y v' e1 e2 e3
        refine ⟨u', r', ?_⟩
        rcases q with ⟨k, e⟩ | ⟨k, c, e, z⟩
        · refine .inl ⟨k, ?_⟩
          have : y ≠ x := fun e => hj (nodup_ix hN e1 (e ▸ hi))
          simp [this, e]
        · exact .inr ⟨k, c, e, z.sameBut hs (cne y c e)⟩
    · obtain ⟨w', z⟩ := I.cell y c e
      exact ⟨w', z.sameBut hs (cne y c e)⟩
    · obtain ⟨e, n, ne, nf, d⟩ := I.pin p hp
      exact ⟨(hs.2 p.1 ne).trans e, n, ne, nf, d⟩
  · have hfn : X.fn x = true := by
      rcases hf with z | z
      · exact z
      · rw [z] at hk; cases hk
    obtain ⟨c, hc⟩ := I.ok.has x (.inl hk)
    obtain ⟨w', z⟩ := I.cell x c hc
    refine wpAny_storeName_cell I.ok.kind hk hc z (fun h' hc' hs => ?_)
    obtain ⟨oc, hoc, hocd⟩ := id z
    refine h { s with heap := h' } ⟨I.ok, I.os, I.bare, ⟨fun b o e n hb hx => ?_, fun b o e n hb hx => ?_, I.base.free, fun b o e hx => ?_, I.base.tups, I.base.frzs, I.base.tbls⟩, ⟨m, hn.sameBut hs (Ne.symm (cne x c hc)), fun j y v' e1 e2 e3 => ?_⟩, fun y c' e => ?_, I.free, I.freeC, fun p hp => ?_, tracked ⟨oc, hoc, I.freeC x c hc⟩ hs, by simpa using I.len⟩ ⟨c, hs, .inr hc⟩
    · exact (hs.2 b (Nat.ne_of_lt (Nat.lt_of_lt_of_le (Heap.lt_size e) (I.ok.cab x c hfn hc)))).trans (I.base.keep b o e n hb hx)
    · obtain ⟨sl, e1⟩ := I.base.slot b o e n hb hx
      exact ⟨sl, (hs.2 b (Nat.ne_of_lt (Nat.lt_of_lt_of_le (Heap.lt_size e) (I.ok.cab x c hfn hc)))).trans e1⟩
    · obtain ⟨o', e1⟩ := I.base.there b o e hx
      exact ⟨o', (hs.2 b (Nat.ne_of_lt (Nat.lt_of_lt_of_le (Heap.lt_size e) (I.ok.cab x c hfn hc)))).trans e1⟩
    · by_cases hj : j = i
      · subst hj
        rw [hi] at e1; cases e1
        rw [List.getElem?_set_self hiσ] at e2
        cases e2
        exact ⟨u, r, .inr ⟨.inl hk, c, hc, hc'⟩⟩
      · rw [List.getElem?_set_ne (Ne.symm hj)] at e2
        obtain ⟨u', r', q⟩ := hl j y v' e1 e2 e3
        refine ⟨u', r', ?_⟩
        rcases q with q | ⟨k, c', e, z'⟩
        · exact .inl q
        · refine .inr ⟨k, c', e, z'.sameBut hs ?_⟩
          rintro rfl
          exact hj (nodup_ix hN e1 (I.ok.inj _ _ _ e hc ▸ hi))
    · by_cases hcc : c' = c
      · subst hcc; exact ⟨_, hc'⟩
      · obtain ⟨w2, z2⟩ := I.cell y c' e
        exact ⟨w2, z2.sameBut hs hcc⟩
    · obtain ⟨e, n, ne, nf, d⟩ := I.pin p hp
      refine ⟨(hs.2 p.1 ?_).trans e, n, ne, nf, d⟩
      intro q
      rw [q, hoc] at e
      have q' : oc = p.2 := Option.some.inj e
      exact d w' (by rw [← q']; exact hocd)
theorem store_ok {M : Model} {A : Around} {E : Value → Shared → Prop} {i : Nat} {x : Str} {v : V} {u : Value} {Q : Unit → Shared → Prop} (I : Inv X pins σ H s) (hN : X.N.Nodup) (hi : X.N[i]? = some x) (hx : Loc X.env.scope x) (r : RelV v u)
    (h : ∀ s', Inv X pins (σ.set i (some v)) H s' → Q () s') (hf : X.fn x = true ∨ X.env.scope.names.lookup x = some .local := by first | exact .inl rfl | exact .inr rfl | assumption) : wpAny M A (storeName X.env x u) Q E s :=
  store_ok2 I hN hi hx r (fun s' I' _ => h s' I') hf
theorem Inv.call' {s' : Shared} {ch : List Addr} (I : Inv X pins σ H s) (ho : s'.os = s.os) (u : Un (frs X.stack) ch H H' s.heap s'.heap) (hok : HOk X.prog X.w H' s'.heap) (hg : AllBare s'.gens)
    (hch : ∀ b ∈ ch, (b ∈ X.ex ∨ X.s₀.heap.objs.size ≤ b) ∧ b ≠ X.env.locals ∧ (∀ x c, X.env.cells.lookup x = some c → c ≠ b) ∧ ∀ p ∈ X.pn ++ pins, p.1 ≠ b) : Inv X pins σ H' s' := by
  obtain ⟨h', g', d', t', o'⟩ := s'
  have e : o' = s.os := ho
  subst e
  exact I.call (g' := g') (t' := t') (d' := d') u hok hg hch
end
noncomputable abbrev XK := Value → Option Addr → Hp → Prop
noncomputable abbrev St := List (Option V)
noncomputable abbrev VK := V → Hp → Prop
noncomputable abbrev TE := St → Hp → VK → Prop
noncomputable abbrev TT := St → Hp → (Bool → Hp → Prop) → Prop
noncomputable abbrev TA := St → Hp → (List V → Hp → Prop) → Prop
structure Ends where
  nx : St → Hp → Prop
  rt : VK
  bk : St → Hp → Prop := fun _ _ => False
  ct : St → Hp → Prop := fun _ _ => False
noncomputable abbrev TS := Ends → St → Hp → Prop
noncomputable def EP (X : Cx) (pins : List (Addr × Obj)) (σ : St) (Q : VK) (u : Value) (s' : Shared) : Prop := ∃ v H', Inv X pins σ H' s' ∧ RelV v u ∧ Q v H'
noncomputable def TP (X : Cx) (pins : List (Addr × Obj)) (σ : St) (Q : Bool → Hp → Prop) (b : Bool) (s' : Shared) : Prop := ∃ H', Inv X pins σ H' s' ∧ Q b H'
noncomputable def AP (X : Cx) (pins : List (Addr × Obj)) (σ : St) (Q : List V → Hp → Prop) (us : List Value) (s' : Shared) : Prop := ∃ vs H', Inv X pins σ H' s' ∧ Vals vs us ∧ Q vs H'
noncomputable def SP (X : Cx) (pins : List (Addr × Obj)) (D : Ends) (f : Flow) (s' : Shared) : Prop :=
  match f with
  | .next => ∃ σ' H', Inv X pins σ' H' s' ∧ D.nx σ' H'
  | .brk => ∃ σ' H', Inv X pins σ' H' s' ∧ D.bk σ' H'
  | .cont => ∃ σ' H', Inv X pins σ' H' s' ∧ D.ct σ' H'
  | .ret u => ∃ v σ' H', Inv X pins σ' H' s' ∧ RelV v u ∧ D.rt v H'
noncomputable def PE (X : Cx) (e : Expr) (t : TE) : Prop :=
  ∀ (pins : List (Addr × Obj)) (s : Shared) (σ : St) (H : Hp) (Q : VK), Inv X pins σ H s → t σ H Q → wpAny (model X.prog X.w) X.A (eval e X.env) (EP X pins σ Q) X.xe s
noncomputable def PT (X : Cx) (e : Expr) (t : TT) : Prop :=
  ∀ (pins : List (Addr × Obj)) (s : Shared) (σ : St) (H : Hp) (Q : Bool → Hp → Prop), Inv X pins σ H s → t σ H Q → wpAny (model X.prog X.w) X.A (isTrue e X.env (eval e X.env)) (TP X pins σ Q) X.xe s
noncomputable def PW (X : Cx) (e : Expr) (t : TT) : Prop :=
  ∀ (whole : Sem Value) (pins : List (Addr × Obj)) (s : Shared) (σ : St) (H : Hp) (Q : Bool → Hp → Prop), Inv X pins σ H s → t σ H Q → wpAny (model X.prog X.w) X.A (isTrue e X.env whole) (TP X pins σ Q) X.xe s
theorem PW.pt {X : Cx} {e : Expr} {t : TT} (h : PW X e t) : PT X e t := h _
noncomputable def PA (X : Cx) (es : List Expr) (t : TA) : Prop :=
  ∀ (pos : Pos) (pins : List (Addr × Obj)) (s : Shared) (σ : St) (H : Hp) (Q : List V → Hp → Prop), Inv X pins σ H s → t σ H Q → wpAny (model X.prog X.w) X.A (spliced (backTo pos (starEach es X.env))) (AP X pins σ Q) X.xe s
noncomputable def PS (X : Cx) (st : Stmt) (t : TS) : Prop :=
  ∀ (pins : List (Addr × Obj)) (s : Shared) (σ : St) (H : Hp) (D : Ends), Inv X pins σ H s → t D σ H → wpAny (model X.prog X.w) X.A (exec st X.env) (SP X pins D) X.xe s
noncomputable def PSs (X : Cx) (st : List Stmt) (t : TS) : Prop :=
  ∀ (pins : List (Addr × Obj)) (s : Shared) (σ : St) (H : Hp) (D : Ends), Inv X pins σ H s → t D σ H → wpAny (model X.prog X.w) X.A (execs st X.env) (SP X pins D) X.xe s
theorem thn {α : Type} {t : Sem α} {Q Q' : α → Shared → Prop} {M : Model} {A : Around} {E : Value → Shared → Prop} {s : Shared} (h : wpAny M A t Q E s) (hQ : ∀ a s, Q a s → Q' a s) : wpAny M A t Q' E s := wpAny_mono h hQ fun _ _ x => x
end L2
namespace L2
open PySem PySem.Spec PyProof.Rows
section
variable {X : Cx}
theorem bin {a b : Expr} {ta tb : TE} (ha : PE X a ta) (hb : PE X b tb) {pins : List (Addr × Obj)} {s : Shared} {σ : St} {H : Hp} {R : V → V → Hp → Prop} (I : Inv X pins σ H s) (h : ta σ H fun x H1 => tb σ H1 fun y H2 => R x y H2)
    {α : Type} {Q : α → Shared → Prop} {f : Value → Value → Sem α}
    (hf : ∀ v u s2 x y H2, Inv X pins σ H2 s2 → RelV x v → RelV y u → R x y H2 → wpAny (model X.prog X.w) X.A (f v u) Q X.xe s2) :
    wpAny (model X.prog X.w) X.A (eval a X.env) (fun v s₁ => wpAny (model X.prog X.w) X.A (eval b X.env) (fun u s₂ => wpAny (model X.prog X.w) X.A (f v u) Q X.xe s₂) X.xe s₁) X.xe s := by
  refine thn (ha pins s σ H _ I h) fun v s1 ⟨x, H1, I1, r1, q1⟩ => ?_
  refine thn (hb pins s1 σ H1 _ I1 q1) fun u s2 ⟨y, H2, I2, r2, q2⟩ => ?_
  exact hf v u s2 x y H2 I2 r1 r2 q2
noncomputable def tVar (i : Nat) : TE := fun σ H Q => ∃ v, σ[i]? = some (some v) ∧ Q v H
noncomputable def tC (v : V) : TE := fun _ H Q => Q v H
theorem pe_var {i : Nat} {x : Str} {pos : Pos} (hN : X.N[i]? = some x) (hv : Vis X.env.scope x) (hd : (x == ("__debug__" : Str)) = false := by decide) (hcd : (x == ("__classdict__" : Str)) = false := by decide) : PE X (.Name x pos) (tVar i) := by
  intro pins s σ H Q I h
  obtain ⟨v, e, h⟩ := h
  obtain ⟨m, hn, hl⟩ := I.loc
  obtain ⟨u, r, l⟩ := hl i x v hN e hv
  have fin : EP X pins σ Q u s := ⟨v, H, I, r, h⟩
  rcases l with ⟨hk, hm⟩ | ⟨hk, c, hc, hcell⟩
  · exact wpAny_Name (wpAny_loadName_local I.ok.kind hk hn hm fin) hd
  · rcases hk with hk | hk
    · exact wpAny_Name (wpAny_loadName_cell I.ok.kind hk hc hcell fin) hd
    · exact wpAny_Name (wpAny_loadName_free I.ok.kind hk hc hcell fin hcd) hd
theorem pe_int {i j pos} : PE X (.Constant (.int i) j pos) (tC (.int i)) := fun _ _ _ H _ I h => wpAny_Constant_int ⟨.int i, H, I.tok _, ⟨_, rfl⟩, h⟩
theorem pe_bl {b j pos} : PE X (.Constant (.bool b) j pos) (tC (.bl b)) := fun _ _ _ H _ I h => Constant_bool ⟨.bl b, H, I, rfl, h⟩
theorem pe_non {j pos} : PE X (.Constant .none j pos) (tC .non) := fun _ _ _ H _ I h => Constant_none ⟨.non, H, I, rfl, h⟩
theorem pe_str {x j pos} : PE X (.Constant (.str x) j pos) (tC (.str x)) := fun _ _ _ H _ I h => Calls.Constant_str ⟨.str x, H, I.tok _, ⟨_, rfl⟩, h⟩
noncomputable def Gl (X : Cx) (x : Str) : Prop := X.env.kindOf x = some .globalImplicit
theorem ld_glob {E : Value → Shared → Prop} {pins : List (Addr × Obj)} {s : Shared} {σ : St} {H : Hp} {x : Str} {u : Value} {pos : Pos} {Q : Value → Shared → Prop} (I : Inv X pins σ H s) (hg : Gl X x) (hm : X.mg x = some u) (h : Q u s)
    (hd : (x == ("__debug__" : Str)) = false := by decide) : wpAny (model X.prog X.w) X.A (eval (.Name x pos) X.env) Q E s :=
  Calls.Name_function_global I.ok.kind hg (Calls.loadGlobal_global (by rw [I.ok.glob]; exact I.mod.glob.keeps I.bk) hm h) hd
theorem ld_blt {E : Value → Shared → Prop} {pins : List (Addr × Obj)} {s : Shared} {σ : St} {H : Hp} {x : Str} {u : Value} {pos : Pos} {Q : Value → Shared → Prop} (I : Inv X pins σ H s) (hg : Gl X x) (hm : X.mg x = none) (hv : bootBuiltins x = some u) (h : Q u s)
    (hn : x ≠ "__name__" := by decide) (hd : (x == ("__debug__" : Str)) = false := by decide) : wpAny (model X.prog X.w) X.A (eval (.Name x pos) X.env) Q E s := by
  obtain ⟨mb, h1, h2⟩ := I.mod.blt
  exact Calls.Name_function_global I.ok.kind hg (Calls.loadGlobal_builtin (by rw [I.ok.glob]; exact I.mod.glob.keeps I.bk) hm (by rw [I.ok.blt]; exact h1.keeps I.bk) ((h2 x hn).trans hv) h) hd
theorem pe_glob {x : Str} {v : V} {u : Value} {pos : Pos} (hg : Gl X x) (hm : X.mg x = some u) (r : RelV v u) (hd : (x == ("__debug__" : Str)) = false := by decide) : PE X (.Name x pos) (tC v) :=
  fun _ _ _ H _ I h => ld_glob I hg hm ⟨v, H, I, r, h⟩ hd
theorem pe_bltn {x : Str} {v : V} {u : Value} {pos : Pos} (hg : Gl X x) (hm : X.mg x = none) (hv : bootBuiltins x = some u) (r : RelV v u) (hn : x ≠ "__name__" := by decide) (hd : (x == ("__debug__" : Str)) = false := by decide) : PE X (.Name x pos) (tC v) :=
  fun _ _ _ H _ I h => ld_blt I hg hm hv ⟨v, H, I, r, h⟩ hn hd
variable {a b : Expr} {ta tb : TE} {pos : Pos}
noncomputable def PC (X : Cx) (op : CmpOp) (a b : Expr) (t : TE) : Prop :=
  ∀ (pins : List (Addr × Obj)) (s : Shared) (σ : St) (H : Hp) (Q : VK), Inv X pins σ H s → t σ H Q →
    wpAny (model X.prog X.w) X.A (eval a X.env) (fun v s₁ => wpAny (model X.prog X.w) X.A (eval b X.env) (fun u s₂ => wpAny (model X.prog X.w) X.A (compareOp op v u) (EP X pins σ Q) X.xe s₂) X.xe s₁) X.xe s
noncomputable def tB (t : TE) : TT := fun σ H Q => t σ H fun x H1 => ∃ c, x = .bl c ∧ Q c H1
theorem pt_cmp {op : CmpOp} {t : TE} (h : PC X op a b t) (h1 : behindInMarks op b = false := by first | exact nobehind _ (by decide) (by decide) | rfl) : PT X (.Compare a [op] [b] pos) (tB t) := by
  intro pins s σ H Q I hw
  refine wpAny_isTrue_Compare1 (thn (h pins s σ H _ I hw) fun v s1 h1 => thn h1 fun u s2 h2 => thn h2 fun c s3 ⟨x, H1, I1, r1, q1⟩ => ?_) h1
  obtain ⟨d, rfl, q⟩ := q1
  cases r1
  exact wpAny_truthy_bool ⟨H1, I1, q⟩
variable {tA tB' : TT} {rest : List Expr}
noncomputable def tAnd (t u : TT) : TT := fun σ H Q => t σ H fun c H1 => if c = true then u σ H1 Q else Q false H1
noncomputable def tOr (t u : TT) : TT := fun σ H Q => t σ H fun c H1 => if c = true then Q true H1 else u σ H1 Q
noncomputable def tNot (t : TT) : TT := fun σ H Q => t σ H fun c H1 => Q (!c) H1
theorem pw_and1 (ha : PT X a tA) : PW X (.BoolOp .And [a] pos) tA := by
  intro wh pins s σ H Q I h
  refine isTrue_and (thn (ha pins s σ H Q I h) fun c s1 e => ?_)
  cases c with
  | true => exact isTrue_and_nil e
  | false => exact e
theorem pw_or1 (ha : PT X a tA) : PW X (.BoolOp .Or [a] pos) tA := by
  intro wh pins s σ H Q I h
  refine isTrue_or (thn (ha pins s σ H Q I h) fun c s1 e => ?_)
  cases c with
  | false => exact isTrue_or_nil e
  | true => exact e
theorem pw_and (ha : PT X a tA) (hb : PW X (.BoolOp .And (b :: rest) pos) tB') : PW X (.BoolOp .And (a :: b :: rest) pos) (tAnd tA tB') := by
  intro wh pins s σ H Q I h
  refine isTrue_and (thn (ha pins s σ H _ I h) fun c s1 ⟨H1, I1, q1⟩ => ?_)
  cases c with
  | true => exact hb wh pins s1 σ H1 Q I1 q1
  | false => exact ⟨H1, I1, q1⟩
theorem pw_or (ha : PT X a tA) (hb : PW X (.BoolOp .Or (b :: rest) pos) tB') : PW X (.BoolOp .Or (a :: b :: rest) pos) (tOr tA tB') := by
  intro wh pins s σ H Q I h
  refine isTrue_or (thn (ha pins s σ H _ I h) fun c s1 ⟨H1, I1, q1⟩ => ?_)
  cases c with
  | true => exact ⟨H1, I1, q1⟩
  | false => exact hb wh pins s1 σ H1 Q I1 q1
theorem pt_not (ha : PT X a tA) : PT X (.UnaryOp .Not a pos) (tNot tA) := by
  intro pins s σ H Q I h
  exact isTrue_not (ha pins s σ H (fun c H1 => Q (!c) H1) I h)
noncomputable def tAndV (ta tb : TE) : TE := fun σ H Q => ta σ H fun x H1 => ∃ c, x = .bl c ∧ if c = true then tb σ H1 Q else Q (.bl false) H1
theorem pe_one {op} {t : TE} (h : PE X a t) : PE X (.BoolOp op [a] pos) t := fun pins s σ H Q I hw => BoolOp_one (h pins s σ H Q I hw)
theorem pe_and (ha : PE X a ta) (hb : PE X (.BoolOp .And (b :: rest) pos) tb) : PE X (.BoolOp .And (a :: b :: rest) pos) (tAndV ta tb) := by
  intro pins s σ H Q I h
  refine BoolOp_and (thn (ha pins s σ H _ I h) fun v s1 ⟨x, H1, I1, r1, q1⟩ => ?_)
  obtain ⟨c, rfl, q1⟩ := q1
  cases r1
  refine wpAny_truthy_bool ?_
  cases c with
  | true => exact hb pins s1 σ H1 Q I1 q1
  | false => exact ⟨.bl false, H1, I1, rfl, q1⟩
noncomputable def tIf (t : TT) (ta tb : TE) : TE := fun σ H Q => t σ H fun c H1 => if c = true then ta σ H1 Q else tb σ H1 Q
theorem pe_ifExp {c : Expr} (hc : PT X c tA) (ha : PE X a ta) (hb : PE X b tb) : PE X (.IfExp c a b pos) (tIf tA ta tb) := by
  intro pins s σ H Q I h
  refine wpAny_IfExp (thn (hc pins s σ H _ I h) fun d s1 ⟨H1, I1, q1⟩ => ?_)
  cases d with
  | true => exact ha pins s1 σ H1 Q I1 q1
  | false => exact hb pins s1 σ H1 Q I1 q1
end
end L2
namespace L2
open PySem PySem.Spec PyProof.Rows
noncomputable def SqL (K : PySem.W.Frag) (H : Hp) (a : Addr) (xs : List V) : Prop :=
  Rd H a (.lst xs) ∨
    ∃ (o : Obj) (its : Array Value) (n : Nat), K.lookup a = some o ∧ o.cls = .type "list" ∧ o.dict = none ∧ o.data = .seq its n ∧ its.size ≤ sizeLine ∧ Vals xs its.toList
noncomputable def SqT (K : PySem.W.Frag) (H : Hp) (a : Addr) (xs : List V) : Prop :=
  Rd H a (.tup xs) ∨
    ∃ (o : Obj) (its : Array Value) (n : Nat), K.lookup a = some o ∧ o.cls = .type "tuple" ∧ o.data = .seq its n ∧ its.size ≤ sizeLine ∧ Vals xs its.toList
noncomputable def absV : Value → Option V
  | .none => some .non
  | .bool b => some (.bl b)
  | .int i _ => some (.int i)
  | .str x _ => some (.str x)
  | .bytes b _ => some (.byt b)
  | .float b _ => some (.flt b)
  | .ref a => some (.ref a)
  | .type n => some (.ty n)
  | _ => none
theorem RelV.abs {x : V} {u : Value} (r : RelV x u) : absV u = some x := by
  cases x with
  | non => cases r; rfl
  | bl _ => cases r; rfl
  | int _ => obtain ⟨t, rfl⟩ := r; rfl
  | str _ => obtain ⟨t, rfl⟩ := r; rfl
  | byt _ => obtain ⟨t, rfl⟩ := r; rfl
  | flt _ => obtain ⟨t, rfl⟩ := r; rfl
  | ref _ => cases r; rfl
  | ty _ => cases r; rfl
theorem RelV.inj {x y : V} {u : Value} (r : RelV x u) (q : RelV y u) : x = y := Option.some.inj (r.abs.symm.trans q.abs)
theorem Vals.inj : ∀ {xs ys : List V} {us : List Value}, Vals xs us → Vals ys us → xs = ys
  | _, _, _, .nil, .nil => rfl
  | _, _, _, .cons r t, .cons r' t' => by rw [r.inj r', Vals.inj t t']
section
variable {X : Cx} {pins : List (Addr × Obj)} {σ : St} {H : Hp} {s : Shared} {a : Addr} {xs ys : List V}
theorem SqL.of {K : PySem.W.Frag} (h : H a = some (.lst xs)) : SqL K H a xs := .inl (.inl h)
theorem SqT.of {K : PySem.W.Frag} (h : H a = some (.tup xs)) : SqT K H a xs := .inl (.inl h)
theorem Inv.list (I : Inv X pins σ H s) (h : SqL X.K H a xs) : ∃ its : List Value, Vals xs its ∧ PlainL s.heap a its.toArray ∧ xs.length ≤ sizeLine := by
  rcases h with h | ⟨o, its, n, hk, hc, hd, hs, hz, r⟩
  · obtain ⟨z, its, n, r, e⟩ := h.ok I.hok
    exact ⟨its, r, ⟨_, n, e, rfl, rfl, rfl⟩, z⟩
  · refine ⟨its.toList, r, ⟨o, n, I.kIn a o hk, hc, hd, by simpa using hs⟩, ?_⟩
    have e := r.length
    simp only [Array.length_toList] at e
    omega
theorem Inv.tuple (I : Inv X pins σ H s) (h : SqT X.K H a xs) : ∃ its : List Value, Vals xs its ∧ IsTup s.heap a its.toArray ∧ xs.length ≤ sizeLine := by
  rcases h with h | ⟨o, its, n, hk, hc, hs, hz, r⟩
  · obtain ⟨z, its, r, p⟩ := h.ok I.hok
    exact ⟨its, r, p, z⟩
  · refine ⟨its.toList, r, ⟨o, I.kIn a o hk, hc, n, by simpa using hs⟩, ?_⟩
    have e := r.length
    simp only [Array.length_toList] at e
    omega
theorem Inv.list_inj (I : Inv X pins σ H s) (h : SqL X.K H a xs) (h' : SqL X.K H a ys) : xs = ys := by
  obtain ⟨its, r, ⟨o, n, e, _, _, d⟩, _⟩ := I.list h
  obtain ⟨its', r', ⟨o', n', e', _, _, d'⟩, _⟩ := I.list h'
  rw [e] at e'; cases e'
  rw [d] at d'
  injection d' with d1 _
  have : its = its' := by simpa using congrArg Array.toList d1
  subst this
  exact r.inj r'
theorem Inv.tuple_inj (I : Inv X pins σ H s) (h : SqT X.K H a xs) (h' : SqT X.K H a ys) : xs = ys := by
  obtain ⟨its, r, ⟨o, e, _, n, d⟩, _⟩ := I.tuple h
  obtain ⟨its', r', ⟨o', e', _, n', d'⟩, _⟩ := I.tuple h'
  rw [e] at e'; cases e'
  rw [d] at d'
  injection d' with d1 _
  have : its = its' := by simpa using congrArg Array.toList d1
  subst this
  exact r.inj r'
end
noncomputable abbrev Cx.wish (X : Cx) (E : Value → Shared → Prop) : Cx := { X with xe := E }
noncomputable abbrev Cx.nox (X : Cx) : Cx := X.wish fun _ _ => False
theorem Cx.Ok.wish {X : Cx} (ok : X.Ok) (E : Value → Shared → Prop) : (X.wish E).Ok :=
  ⟨ok.mod, ok.kind, ok.glob, ok.blt, ok.above, ok.inj, ok.has, ok.cab, ok.hd, ok.frames, ok.stk, ok.exf, ok.bs, ok.bsz, ok.noex, ok.exfs, ok.funs, ok.frf⟩
theorem Cx.Ok.unwish {X : Cx} {E : Value → Shared → Prop} (ok : (X.wish E).Ok) : X.Ok :=
  ⟨ok.mod, ok.kind, ok.glob, ok.blt, ok.above, ok.inj, ok.has, ok.cab, ok.hd, ok.frames, ok.stk, ok.exf, ok.bs, ok.bsz, ok.noex, ok.exfs, ok.funs, ok.frf⟩
section
variable {X : Cx} {pins : List (Addr × Obj)} {σ : St} {H : Hp} {s : Shared} {E : Value → Shared → Prop}
theorem Inv.wish (I : Inv X pins σ H s) (E : Value → Shared → Prop) : Inv (X.wish E) pins σ H s := ⟨I.ok.wish E, I.os, I.bare, I.base, I.loc, I.cell, I.free, I.freeC, I.pin, I.hok, I.len⟩
theorem Inv.unwish (I : Inv (X.wish E) pins σ H s) : Inv X pins σ H s := ⟨I.ok.unwish, I.os, I.bare, I.base, I.loc, I.cell, I.free, I.freeC, I.pin, I.hok, I.len⟩
theorem SP.unwish {D : Ends} {f : Flow} {s' : Shared} (h : SP (X.wish E) pins D f s') : SP X pins D f s' := by
  cases f with
  | next => obtain ⟨σ', H', I, q⟩ := h; exact ⟨σ', H', I.unwish, q⟩
  | brk => obtain ⟨σ', H', I, q⟩ := h; exact ⟨σ', H', I.unwish, q⟩
  | cont => obtain ⟨σ', H', I, q⟩ := h; exact ⟨σ', H', I.unwish, q⟩
  | ret u => obtain ⟨v, σ', H', I, r, q⟩ := h; exact ⟨v, σ', H', I.unwish, r, q⟩
theorem PSs.nox {st : List Stmt} {t : TS} (h : PSs X.nox st t) : PSs X st t := fun pins s σ H D I hw =>
  wpAny_mono (h pins s σ H D (I.wish _) hw) (fun _ _ q => q.unwish) fun _ _ z => False.elim z
end
section
variable {X : Cx} {st : Stmt} {rest : List Stmt} {t u : TS} {e : Expr} {te : TE} {pos : Pos}
noncomputable def tNext : TS := fun D σ H => D.nx σ H
noncomputable def tSeq (t u : TS) : TS := fun D σ H => t { D with nx := u D } σ H
theorem pss_nil : PSs X [] tNext := fun _ _ σ H _ I h => wpAny_execs_nil ⟨σ, H, I, h⟩
theorem pss_cons (h1 : PS X st t) (h2 : PSs X rest u) : PSs X (st :: rest) (tSeq t u) := by
  intro pins s σ H D I h
  refine wpAny_execs_cons (thn (h1 pins s σ H { D with nx := u D } I h) fun f s1 q => ?_)
  cases f with
  | next =>
    obtain ⟨σ', H', I', q⟩ := q
    exact h2 pins s1 σ' H' D I' q
  | ret v => exact q
  | brk => exact q
  | cont => exact q
theorem pss_one (h1 : PS X st t) : PSs X [st] t := by
  intro pins s σ H D I h
  refine wpAny_execs_cons (thn (h1 pins s σ H D I h) fun f s1 q => ?_)
  cases f with
  | next => exact wpAny_execs_nil q
  | ret v => exact q
  | brk => exact q
  | cont => exact q
theorem Inv.quiet {pins : List (Addr × Obj)} {σ : St} {H : Hp} {s : Shared} (I : Inv X pins σ H s) : interactive X.env = false := by simp [interactive, I.ok.kind]
noncomputable def tDrop (te : TE) : TS := fun D σ H => te σ H fun _ H1 => D.nx σ H1
theorem ps_expr (he : PE X e te) (hs : swapsWith e none pos.line X.env = pure false := by rfl) : PS X (.Expr e pos) (tDrop te) := by
  intro pins s σ H D I h
  exact wpAny_Expr_any (thn (he pins s σ H _ I h) fun v s1 ⟨x, H1, I1, r1, q1⟩ => ⟨σ, H1, I1, q1⟩) I.quiet hs
noncomputable def tRet (te : TE) : TS := fun D σ H => te σ H D.rt
theorem ps_ret (he : PE X e te) : PS X (.Return (some e) pos) (tRet te) := by
  intro pins s σ H D I h
  exact wpAny_Return_some (thn (he pins s σ H _ I h) fun v s1 ⟨x, H1, I1, r1, q1⟩ => ⟨x, σ, H1, I1, r1, q1⟩)
noncomputable def tIfS (c : TT) (t u : TS) : TS := fun D σ H => c σ H fun b H1 => if b = true then t D σ H1 else u D σ H1
theorem ps_if {c : Expr} {a b : List Stmt} {tc : TT} (hc : PT X c tc) (ha : PSs X a t) (hb : PSs X b u) : PS X (.If c a b pos) (tIfS tc t u) := by
  intro pins s σ H D I h
  refine wpAny_If (thn (hc pins s σ H _ I h) fun d s1 ⟨H1, I1, q1⟩ => ?_)
  cases d with
  | true => exact ha pins s1 σ H1 D I1 q1
  | false => exact hb pins s1 σ H1 D I1 q1
noncomputable def tNever : TS := fun _ _ _ => False
theorem pss_never {sts : List Stmt} : PSs X sts tNever := fun _ _ _ _ _ _ h => h.elim
end
noncomputable abbrev TG := V → St → Hp → (St → Hp → Prop) → Prop
noncomputable abbrev TGs := List V → St → Hp → (St → Hp → Prop) → Prop
noncomputable def PG (X : Cx) (target : Expr) (t : TG) : Prop :=
  ∀ (pins : List (Addr × Obj)) (s : Shared) (σ : St) (H : Hp) (v : V) (u : Value) (Q : St → Hp → Prop), Inv X pins σ H s → RelV v u → t v σ H Q →
    wpAny (model X.prog X.w) X.A (assign target X.env u) (fun _ s' => ∃ σ' H', Inv X pins σ' H' s' ∧ Q σ' H') X.xe s
noncomputable def PGs (X : Cx) (ts : List Expr) (t : TGs) : Prop :=
  ∀ (pins : List (Addr × Obj)) (s : Shared) (σ : St) (H : Hp) (vs : List V) (us : List Value) (Q : St → Hp → Prop), Inv X pins σ H s → Vals vs us → t vs σ H Q →
    wpAny (model X.prog X.w) X.A (assignInOrder ((assignEach ts X.env).map (·.2)) us) (fun _ s' => ∃ σ' H', Inv X pins σ' H' s' ∧ Q σ' H') X.xe s
section
variable {X : Cx} {pos : Pos}
noncomputable def gName (i : Nat) : TG := fun v σ H Q => Q (σ.set i (some v)) H
theorem pg_name {i : Nat} {x : Str} (hN : X.N.Nodup) (hi : X.N[i]? = some x) (hx : Loc X.env.scope x) (hf : X.fn x = true ∨ X.env.scope.names.lookup x = some .local := by first | exact .inl rfl | exact .inr rfl | assumption) : PG X (.Name x pos) (gName i) := by
  intro pins s σ H v u Q I r h
  exact wpAny_assign_Name (store_ok I hN hi hx r (fun s' I' => ⟨_, H, I', h⟩) hf)
noncomputable def gNil : TGs := fun vs σ H Q => vs = [] ∧ Q σ H
noncomputable def gCons (t : TG) (u : TGs) : TGs := fun vs σ H Q => ∃ v r, vs = v :: r ∧ t v σ H fun σ' H' => u r σ' H' Q
theorem pgs_nil : PGs X [] gNil := by
  intro pins s σ H vs us Q I r h
  obtain ⟨e, h⟩ := h
  subst e
  cases r
  exact assignInOrder_nil ⟨σ, H, I, h⟩
theorem pgs_cons {e : Expr} {es : List Expr} {t : TG} {u : TGs} (h1 : PG X e t) (h2 : PGs X es u)
    (hs : (assignEach (e :: es) X.env).map (·.2) = assign e X.env :: (assignEach es X.env).map (·.2) := by rfl) : PGs X (e :: es) (gCons t u) := by
  intro pins s σ H vs us Q I r h
  obtain ⟨v, vr, e1, h⟩ := h
  subst e1
  cases r with
  | cons r rr =>
    rw [hs]
    refine assignInOrder_cons (thn (h1 pins s σ H _ _ _ I r h) fun _ s1 ⟨σ1, H1, I1, q1⟩ => ?_)
    exact h2 pins s1 σ1 H1 _ _ Q I1 rr q1
noncomputable def gTup (K : PySem.W.Frag) (n : Nat) (t : TGs) : TG := fun v σ H Q => ∃ a xs, v = .ref a ∧ SqT K H a xs ∧ xs.length = n ∧ t xs σ H Q
theorem pg_tup {es : List Expr} {k : Nat} {t : TGs} {n : Nat} (hc : X.calm = true) (h : PGs X es t)
    (hn : (assignEach es X.env).length = n := by rfl) (hst : (assignEach es X.env).findIdx? (·.1) = none := by rfl) : PG X (.Tuple es k pos) (gTup X.K n t) := by
  intro pins s σ H v u Q I r hw
  obtain ⟨a, xs, e1, hq, hl, hw⟩ := hw
  subst e1
  cases r
  obtain ⟨its, rv, ht, hz⟩ := I.tuple hq
  refine assign_Tuple_tuple (I.ok.hd hc) ht (by simp [hn, ← hl, rv.length]) hst fun h' hx => ?_
  have I1 : Inv X pins σ H { s with heap := h' } := I.kept (t' := s.toks) fun b o e => hx b o (Nat.ne_of_lt (Heap.lt_size e)) e
  exact h pins _ σ H xs _ Q I1 (by simpa using rv) hw
noncomputable def tAsg (te : TE) (g : TG) : TS := fun D σ H => te σ H fun x H1 => g x σ H1 D.nx
theorem ps_asg {tg e : Expr} {te : TE} {g : TG} (he : PE X e te) (hg : PG X tg g) (hs : swapsWithSole [tg] e pos.line X.env = pure false := by rfl) (hw : swappedStores [tg] e X.env = pure none := by rfl)
    (h1 : (assignEach [tg] X.env).map (·.2) = [assign tg X.env] := by rfl) : PS X (.Assign [tg] e pos) (tAsg te g) := by
  intro pins s σ H D I h
  refine wpAny_Assign_stores (thn (he pins s σ H _ I h) fun v s1 ⟨x, H1, I1, r1, q1⟩ => ?_) hs hw
  rw [h1]
  exact thn (hg pins s1 σ H1 x v _ I1 r1 q1) fun _ s2 q => q
theorem ps_set {i : Nat} {x : Str} {e : Expr} {te : TE} {pos' : Pos} (hN : X.N.Nodup) (hi : X.N[i]? = some x) (hx : Loc X.env.scope x) (he : PE X e te) (hs : swapsWith e (some (.Name x pos')) pos.line X.env = pure false := by rfl) (hf : X.fn x = true ∨ X.env.scope.names.lookup x = some .local := by first | exact .inl rfl | exact .inr rfl | assumption) :
    PS X (.Assign [.Name x pos'] e pos) (tAsg te (gName i)) := by
  intro pins s σ H D I h
  refine wpAny_Assign_Name (thn (he pins s σ H _ I h) fun v s1 ⟨y, H1, I1, r1, q1⟩ => ?_) hs
  exact store_ok I1 hN hi hx r1 (fun s2 I2 => ⟨_, H1, I2, q1⟩) hf
end
section
variable {X : Cx} {pos : Pos}
noncomputable def tWhile (c : TT) (tb : TS) : TS := fun D σ H => ∃ W : Nat → St → Hp → Prop, (∃ m, W m σ H) ∧ ∀ m σ H, W m σ H →
  c σ H fun b H1 => if b = true then ∃ N : St → Hp → Prop, (∀ σ' H', N σ' H' → ∃ m', m' < m ∧ W m' σ' H') ∧ tb { D with nx := N, ct := N, bk := D.nx } σ H1 else D.nx σ H1
theorem ps_while {c : Expr} {body : List Stmt} {tc : TT} {tb : TS} (hp : PassesOwn (model X.prog X.w) X.A X.env X.xe) (hc : PT X c tc) (hb : PSs X body tb) : PS X (.While c body [] pos) (tWhile tc tb) := by
  intro pins s σ H D I h
  obtain ⟨W, ⟨m0, w0⟩, turn⟩ := h
  refine wpAny_While (codeAny_whileLoop (fun n s' => ∃ σ' H', Inv X pins σ' H' s' ∧ W n σ' H') ?_ m0 ⟨σ, H, I, w0⟩)
  rintro n s1 ⟨σ1, H1, I1, w1⟩
  refine wpAny_passesOwn hp (thn (hc pins s1 σ1 H1 _ I1 (turn n σ1 H1 w1)) fun b s2 ⟨H2, I2, q2⟩ => ?_)
  cases b with
  | true =>
    obtain ⟨N, hN, q2⟩ := q2
    rw [if_pos rfl]
    refine wpAny_passesOwn hp (thn (hb pins s2 σ1 H2 _ I2 q2) fun f s3 q3 => ?_)
    cases f with
    | next =>
      obtain ⟨σ3, H3, I3, n3⟩ := q3
      obtain ⟨m', hm, w3⟩ := hN σ3 H3 n3
      exact ⟨m', hm, σ3, H3, I3, w3⟩
    | cont =>
      obtain ⟨σ3, H3, I3, n3⟩ := q3
      obtain ⟨m', hm, w3⟩ := hN σ3 H3 n3
      exact ⟨m', hm, σ3, H3, I3, w3⟩
    | brk => exact q3
    | ret v => exact q3
  | false =>
    rw [if_neg Bool.false_ne_true]
    exact wpAny_execs_nil ⟨σ1, H2, I2, q2⟩
end
structure It where
  go : Nat → Hp → Prop
  yld : Nat → Hp → V → Hp → Prop
  stop : Nat → Hp → Prop
noncomputable def FpOk (X : Cx) (pins : List (Addr × Obj)) (H : Hp) (b : Addr) : Prop :=
  H b = none ∧ b ≠ X.env.locals ∧ b ∉ X.fs ∧ (b ∈ X.ex ∨ X.s₀.heap.objs.size ≤ b) ∧ (∀ x c, X.env.cells.lookup x = some c → c ≠ b) ∧ ∀ p ∈ X.pn ++ pins, p.1 ≠ b
theorem Inv.fpOk {X : Cx} {pins : List (Addr × Obj)} {σ : St} {H H' : Hp} {s : Shared} {b : Addr} (I : Inv X pins σ H s) (hb : s.heap.objs.size ≤ b) (hn : H' b = none) : FpOk X pins H' b := by
  refine ⟨hn, Nat.ne_of_gt (Nat.lt_of_lt_of_le I.lt hb), I.nofs hb, .inr (Nat.le_trans I.sz hb), fun x c e z => ?_, fun p hp z => ?_⟩
  · obtain ⟨v, q⟩ := I.cell x c e
    exact absurd (Nat.lt_of_lt_of_le q.lt (by rw [z]; exact hb)) (Nat.lt_irrefl _)
  · exact absurd (Nat.lt_of_lt_of_le (Heap.lt_size (I.pin p hp).1) (by rw [z]; exact hb)) (Nat.lt_irrefl _)
structure Turn (P : Program) (w : World) (K : PySem.W.Frag) (tg : Expr) (J : It) (fp : List Addr) (it : Addr) (tn : Nat → Heap → Prop) : Prop where
  mem : it ∈ fp
  obj : ∀ i h, tn i h → ∀ b ∈ fp, ∃ o, h.get? b = some o ∧ ∀ v, o.data ≠ .cell v
  keep : ∀ i h h', tn i h → (∀ b ∈ fp, ∀ o, h.get? b = some o → h'.get? b = some o) → tn i h'
  item : ∀ (X : Cx), X.prog = P → X.w = w → X.K = K → X.calm = true → ∀ (i : Nat) (pins : List (Addr × Obj)) (s : Shared) (σ : St) (H : Hp) (E : Value → Shared → Prop), Inv X pins σ H s → (∀ b ∈ fp, FpOk X pins H b) → tn i s.heap → J.go i H →
    wpAny (model P w) X.A (pyNext (.ref it)) (fun r s1 => ∃ u, r = some u ∧
      wpAny (model P w) X.A (letOwnedTupleGo tg (.ref it) u) (fun _ s2 => ∃ x H', Inv X pins σ H' s2 ∧ RelV x u ∧ J.yld i H x H' ∧ tn (i + 1) s2.heap ∧ ∀ b ∈ fp, H' b = none) E s1) E s
  done : ∀ (X : Cx), X.prog = P → X.w = w → X.K = K → X.calm = true → ∀ (i : Nat) (pins : List (Addr × Obj)) (s : Shared) (σ : St) (H : Hp) (E : Value → Shared → Prop), Inv X pins σ H s → (∀ b ∈ fp, FpOk X pins H b) → tn i s.heap → J.stop i H →
    wpAny (model P w) X.A (pyNext (.ref it)) (fun r s1 => r = none ∧ Inv X pins σ H s1) E s
  self : ∀ (A : Around) (i : Nat) (s : Shared) (Q : Value → Shared → Prop) (E : Value → Shared → Prop), tn i s.heap → Q (.ref it) s → wpAny (model P w) A (pyIter (.ref it)) Q E s
noncomputable abbrev TI := St → Hp → (It → Hp → Prop) → Prop
noncomputable def PIE (X : Cx) (pins : List (Addr × Obj)) (σ : St) (tg : Expr) (R : It → Hp → Prop) (itv : Value) (s2 : Shared) : Prop :=
  ∃ (it : Addr) (fp : List Addr) (tn : Nat → Heap → Prop) (J : It) (H' : Hp), itv = .ref it ∧ Inv X pins σ H' s2 ∧ Turn X.prog X.w X.K tg J fp it tn ∧ tn 0 s2.heap ∧ (∀ b ∈ fp, FpOk X pins H' b) ∧ R J H'
noncomputable def PI (X : Cx) (tg iter : Expr) (wi : TI) : Prop :=
  ∀ (pins : List (Addr × Obj)) (s : Shared) (σ : St) (H : Hp) (R : It → Hp → Prop), Inv X pins σ H s → wi σ H R →
    wpAny (model X.prog X.w) X.A (eval iter X.env) (fun v s1 => wpAny (model X.prog X.w) X.A (pyIter v) (PIE X pins σ tg R) X.xe s1) X.xe s
theorem go_of {M : Model} {A : Around} {E : Value → Shared → Prop} {s : Shared} {tg : Expr} {it : Addr} {u : Value} {o : Obj} {n : String} {vs : Array Value} {Q : Unit → Shared → Prop} (ho : s.heap.get? it = some o) (hc : o.cls = .type n) (hd : o.data = .fields vs)
    (hn : ["enumerate", "zip", "dict_itemiterator", "dict_reverseitemiterator", "odict_iterator", "itertools.zip_longest", "itertools.pairwise"].contains n = false) (hQ : Q () s) : wpAny M A (letOwnedTupleGo tg (.ref it) u) Q E s := by
  unfold letOwnedTupleGo
  cases tg <;> first
    | exact wpAny_pure hQ
    | (cases u <;> first
        | exact wpAny_pure hQ
        | (refine wpAny_bind (wpAny_load ho ?_)
           rw [hc, hd]
           show wpAny M A (if (["enumerate", "zip", "dict_itemiterator", "dict_reverseitemiterator", "odict_iterator", "itertools.zip_longest", "itertools.pairwise"].contains n && vs[0]? == some (rawInt _)) = true then _ else _) Q E s
           rw [if_neg (by intro h; rw [hn, Bool.false_and] at h; cases h)]
           exact wpAny_pure hQ))
noncomputable def Itl (K : PySem.W.Frag) (a : Addr) : It :=
  ⟨fun i H => ∃ xs x, SqL K H a xs ∧ xs[i]? = some x, fun i H x H' => H' = H ∧ ∀ xs, SqL K H a xs → xs[i]? = some x, fun i H => ∃ xs, SqL K H a xs ∧ xs.length ≤ i⟩
noncomputable def Itt (K : PySem.W.Frag) (a : Addr) : It :=
  ⟨fun i H => ∃ xs x, SqT K H a xs ∧ xs[i]? = some x, fun i H x H' => H' = H ∧ ∀ xs, SqT K H a xs → xs[i]? = some x, fun i H => ∃ xs, SqT K H a xs ∧ xs.length ≤ i⟩
theorem turn_list {P : Program} {w : World} {K : PySem.W.Frag} {tg : Expr} (a it : Addr) : Turn P w K tg (Itl K a) [it] it (fun i h => h.IsListIter it a i) where
  mem := by simp
  obj := fun i h st b hb => by
    have e : b = it := by simpa using hb
    subst e
    obtain ⟨o, e, c, d⟩ := st
    exact ⟨o, e, fun v z => by rw [d] at z; cases z⟩
  keep := fun i h h' st k => st.at fun o e => k it (by simp) o e
  item := by
    intro X hP hw hK hc i pins s σ H E I hf st hg
    subst hP hw hK
    obtain ⟨xs, x, hq, hx⟩ := hg
    obtain ⟨its, rv, p, hz⟩ := I.list hq
    obtain ⟨u, hu, ru⟩ := rv.get hx
    obtain ⟨f0, f1, f2, f3, f4, f5⟩ := hf it (by simp)
    refine wpAny_pyNext_list_item st p.isList (x := u) (by simpa using hu) fun h' st' sb => ?_
    have I1 : Inv X pins σ H { s with heap := h' } := I.turned (t' := s.toks) (fun b o hb e => (sb.2 b hb).trans e) f0 f1 f3 f4 f5
    obtain ⟨o, e, c, d⟩ := id st'
    exact ⟨u, rfl, go_of (s := { s with heap := h' }) e c d (by decide) ⟨x, H, I1, ru, ⟨rfl, fun ys hy => by rw [I.list_inj hy hq]; exact hx⟩, st', fun b hb => (hf b hb).1⟩⟩
  done := by
    intro X hP hw hK hc i pins s σ H E I hf st hg
    subst hP hw hK
    obtain ⟨xs, hq, hx⟩ := hg
    obtain ⟨its, rv, p, hz⟩ := I.list hq
    obtain ⟨f0, f1, f2, f3, f4, f5⟩ := hf it (by simp)
    have hl := rv.length
    exact wpAny_pyNext_list_end (I.ok.hd hc) st p.isList (by simp; omega) fun h' eb => ⟨rfl, I.turned (t' := s.toks) (fun b o hb e => eb b o hb e) f0 f1 f3 f4 f5⟩
  self := fun _ _ _ _ _ st h => wpAny_pyIter_listiter st h
theorem turn_tuple {P : Program} {w : World} {K : PySem.W.Frag} {tg : Expr} (a it : Addr) : Turn P w K tg (Itt K a) [it] it (fun i h => h.IsTupleIter it a i) where
  mem := by simp
  obj := fun i h st b hb => by
    have e : b = it := by simpa using hb
    subst e
    obtain ⟨o, e, c, d⟩ := st
    exact ⟨o, e, fun v z => by rw [d] at z; cases z⟩
  keep := fun i h h' st k => st.at fun o e => k it (by simp) o e
  item := by
    intro X hP hw hK hc i pins s σ H E I hf st hg
    subst hP hw hK
    obtain ⟨xs, x, hq, hx⟩ := hg
    obtain ⟨its, rv, p, hz⟩ := I.tuple hq
    obtain ⟨u, hu, ru⟩ := rv.get hx
    obtain ⟨f0, f1, f2, f3, f4, f5⟩ := hf it (by simp)
    refine wpAny_pyNext_tuple_item st (show s.heap.IsTuple a its.toArray from p) (x := u) (by simpa using hu) fun h' st' sb => ?_
    have I1 : Inv X pins σ H { s with heap := h' } := I.turned (t' := s.toks) (fun b o hb e => (sb.2 b hb).trans e) f0 f1 f3 f4 f5
    obtain ⟨o, e, c, d⟩ := id st'
    exact ⟨u, rfl, go_of (s := { s with heap := h' }) e c d (by decide) ⟨x, H, I1, ru, ⟨rfl, fun ys hy => by rw [I.tuple_inj hy hq]; exact hx⟩, st', fun b hb => (hf b hb).1⟩⟩
  done := by
    intro X hP hw hK hc i pins s σ H E I hf st hg
    subst hP hw hK
    obtain ⟨xs, hq, hx⟩ := hg
    obtain ⟨its, rv, p, hz⟩ := I.tuple hq
    obtain ⟨f0, f1, f2, f3, f4, f5⟩ := hf it (by simp)
    have hl := rv.length
    exact wpAny_pyNext_tuple_end (I.ok.hd hc) st (show s.heap.IsTuple a its.toArray from p) (by simp; omega) fun h' eb => ⟨rfl, I.turned (t' := s.toks) (fun b o hb e => eb b o hb e) f0 f1 f3 f4 f5⟩
  self := fun _ _ _ _ _ st h => wpAny_pyIter_tupleiter st h
end L2
namespace L2
open PySem PySem.Spec PyProof.Rows
section
variable {X : Cx} {tg : Expr}
noncomputable def iList (K : PySem.W.Frag) (tl : TE) : TI := fun σ H R => tl σ H fun x H1 => ∃ a, x = .ref a ∧ (∃ xs, SqL K H1 a xs) ∧ R (Itl K a) H1
noncomputable def iTup (K : PySem.W.Frag) (tl : TE) : TI := fun σ H R => tl σ H fun x H1 => ∃ a, x = .ref a ∧ (∃ xs, SqT K H1 a xs) ∧ R (Itt K a) H1
theorem pi_list {l : Expr} {tl : TE} (hl : PE X l tl) : PI X tg l (iList X.K tl) := by
  intro pins s σ H R I h
  refine thn (hl pins s σ H _ I h) fun v s1 ⟨x, H1, I1, r1, q1⟩ => ?_
  obtain ⟨a, e, ⟨xs, hq⟩, q⟩ := q1
  subst e
  cases r1
  obtain ⟨its, rv, p, hz⟩ := I1.list hq
  refine wpAny_pyIter_list p.isList ?_
  refine ⟨s1.heap.objs.size, [s1.heap.objs.size], _, _, H1, rfl, I1.kept (t' := s1.toks) fun b o e => Heap.get?_push_of_some _ e, turn_list a _, ⟨_, Heap.get?_push_size _ rfl, rfl, rfl⟩, fun b hb => ?_, q⟩
  have e : b = s1.heap.objs.size := by simpa using hb
  subst e
  exact I1.fpOk (Nat.le_refl _) (I1.hok.fresh (Nat.le_refl _))
theorem pi_tup {l : Expr} {tl : TE} (hl : PE X l tl) : PI X tg l (iTup X.K tl) := by
  intro pins s σ H R I h
  refine thn (hl pins s σ H _ I h) fun v s1 ⟨x, H1, I1, r1, q1⟩ => ?_
  obtain ⟨a, e, ⟨xs, hq⟩, q⟩ := q1
  subst e
  cases r1
  obtain ⟨its, rv, p, hz⟩ := I1.tuple hq
  refine wpAny_pyIter_tuple (show s1.heap.IsTuple a its.toArray from p) ?_
  refine ⟨s1.heap.objs.size, [s1.heap.objs.size], _, _, H1, rfl, I1.kept (t' := s1.toks) fun b o e => Heap.get?_push_of_some _ e, turn_tuple a _, ⟨_, Heap.get?_push_size _ rfl, rfl, rfl⟩, fun b hb => ?_, q⟩
  have e : b = s1.heap.objs.size := by simpa using hb
  subst e
  exact I1.fpOk (Nat.le_refl _) (I1.hok.fresh (Nat.le_refl _))
noncomputable def tFor (wi : TI) (g : TG) (tb : TS) : TS := fun D σ H => wi σ H fun J H1 => ∃ W : Nat → Nat → St → Hp → Prop, (∃ m, W 0 m σ H1) ∧ ∀ i m σ H, W i m σ H →
  (J.stop i H ∧ D.nx σ H) ∨ (J.go i H ∧ ∃ N : St → Hp → Prop, (∀ σ' H', N σ' H' → ∃ m', m' < m ∧ W (i + 1) m' σ' H') ∧ ∀ x H', J.yld i H x H' → g x σ H' fun σ2 H2 => tb { D with nx := N, ct := N, bk := D.nx } σ2 H2)
noncomputable def pinsAt (fp : List Addr) (h : Heap) : List (Addr × Obj) := fp.filterMap fun b => (h.get? b).map fun o => (b, o)
theorem mem_pinsAt {fp : List Addr} {h : Heap} {b : Addr} {o : Obj} (hb : b ∈ fp) (e : h.get? b = some o) : (b, o) ∈ pinsAt fp h := List.mem_filterMap.mpr ⟨b, hb, by rw [e]; rfl⟩
theorem of_pinsAt {fp : List Addr} {h : Heap} {p : Addr × Obj} (hp : p ∈ pinsAt fp h) : p.1 ∈ fp ∧ h.get? p.1 = some p.2 := by
  obtain ⟨b, hb, e⟩ := List.mem_filterMap.mp hp
  cases q : h.get? b with
  | none => rw [q] at e; cases e
  | some o =>
    rw [q] at e
    have e' : (b, o) = p := Option.some.inj e
    subst e'
    exact ⟨hb, q⟩
theorem Inv.pinned {pins : List (Addr × Obj)} {σ : St} {H : Hp} {s : Shared} {fp : List Addr} (I : Inv X pins σ H s) (hf : ∀ b ∈ fp, FpOk X pins H b) (ho : ∀ b ∈ fp, ∃ o, s.heap.get? b = some o ∧ ∀ v, o.data ≠ .cell v) : Inv X (pins ++ pinsAt fp s.heap) σ H s :=
  I.pins_of fun p hp => (List.mem_append.mp hp).elim (fun z => I.pin p (List.mem_append_right _ z)) fun z => by
    obtain ⟨hb, e⟩ := of_pinsAt z
    obtain ⟨f0, f1, f2, _⟩ := hf p.1 hb
    obtain ⟨o, e', d⟩ := ho p.1 hb
    rw [e] at e'; cases e'
    exact ⟨e, f0, f1, f2, d⟩
theorem Inv.unpinned {pins pl : List (Addr × Obj)} {σ : St} {H : Hp} {s : Shared} (I : Inv X (pins ++ pl) σ H s) : Inv X pins σ H s := I.pins_of fun p hp => I.pin p (List.mem_append_right _ (List.mem_append_left _ hp))
theorem ps_for {iter : Expr} {body : List Stmt} {wi : TI} {g : TG} {tb : TS} {pos : Pos} (hp : PassesOwn (model X.prog X.w) X.A X.env X.xe) (hc : X.calm = true) (hi : PI X tg iter wi) (hg : PG X tg g) (hb : PSs X body tb)
    (hs : ∀ x, foldedSetIterable iter X.env x = pure x := by intro _; rfl) : PS X (.For tg iter body [] pos) (tFor wi g tb) := by
  intro pins s σ H D I h
  refine wpAny_For (thn (hi pins s σ H _ I h) fun v s1 h1 => thn h1 fun itv s2 h2 => ?_) hs
  obtain ⟨it, fp, tn, J, H2, e, I2, T, st2, f2, W, ⟨m0, w0⟩, turn⟩ := h2
  subst e
  have stat : ∀ {H' : Hp}, (∀ b ∈ fp, H' b = none) → ∀ b ∈ fp, FpOk X pins H' b := fun hn b hb => ⟨hn b hb, (f2 b hb).2⟩
  refine codeAny_forLoop_any (fun n s' => ∃ i σ' H', Inv X pins σ' H' s' ∧ tn i s'.heap ∧ (∀ b ∈ fp, H' b = none) ∧ W i n σ' H') ?_ m0 ⟨0, σ, H2, I2, st2, fun b hb => (f2 b hb).1, w0⟩
  rintro n s3 ⟨i, σ3, H3, I3, st3, fr3, w3⟩
  rcases turn i n σ3 H3 w3 with ⟨stop, qn⟩ | ⟨go, N, hN, step⟩
  · refine wpAny_passesOwn hp (thn (T.done X rfl rfl rfl hc i pins s3 σ3 H3 X.xe I3 (stat fr3) st3 stop) fun r s4 ⟨hr, I4⟩ => ?_)
    subst hr
    exact wpAny_execs_nil ⟨σ3, H3, I4, qn⟩
  · refine wpAny_passesOwn hp (thn (T.item X rfl rfl rfl hc i pins s3 σ3 H3 X.xe I3 (stat fr3) st3 go) fun r s4 ⟨u, hr, h4⟩ => ?_)
    subst hr
    refine wpAny_passesOwn hp (thn h4 fun _ s5 ⟨x, H5, I5, r5, y5, st5, fr5⟩ => ?_)
    have I5' := I5.pinned (stat fr5) (T.obj _ _ st5)
    refine wpAny_passesOwn hp (thn (hg _ s5 σ3 H5 x u _ I5' r5 (step x H5 y5)) fun _ s6 ⟨σ6, H6, I6, q6⟩ => ?_)
    refine wpAny_passesOwn hp (thn (hb _ s6 σ6 H6 _ I6 q6) fun f s7 q7 => ?_)
    have again : ∀ {σ7 : St} {H7 : Hp}, Inv X (pins ++ pinsAt fp s5.heap) σ7 H7 s7 → N σ7 H7 → ∃ m, m < n ∧ ∃ i σ' H', Inv X pins σ' H' s7 ∧ tn i s7.heap ∧ (∀ b ∈ fp, H' b = none) ∧ W i m σ' H' := fun {σ7 H7} I7 n7 => by
      obtain ⟨m', hm, w7⟩ := hN σ7 H7 n7
      refine ⟨m', hm, i + 1, σ7, H7, I7.unpinned, T.keep _ _ _ st5 fun b hb o e => (I7.pin (b, o) (List.mem_append_right _ (List.mem_append_right _ (mem_pinsAt hb e)))).1, fun b hb => ?_, w7⟩
      obtain ⟨o, e, d⟩ := T.obj _ _ st5 b hb
      exact (I7.pin (b, o) (List.mem_append_right _ (List.mem_append_right _ (mem_pinsAt hb e)))).2.1
    cases f with
    | next => obtain ⟨σ7, H7, I7, n7⟩ := q7; exact again I7 n7
    | cont => obtain ⟨σ7, H7, I7, n7⟩ := q7; exact again I7 n7
    | brk => obtain ⟨σ7, H7, I7, q7⟩ := q7; exact ⟨σ7, H7, I7.unpinned, q7⟩
    | ret v => obtain ⟨x7, σ7, H7, I7, r7, q7⟩ := q7; exact ⟨x7, σ7, H7, I7.unpinned, r7, q7⟩
end
end L2
namespace L2
open PySem PySem.Spec PyProof.Rows
noncomputable abbrev R2 := V → V → Hp → VK → Prop
noncomputable def OpR (X : Cx) (f : Value → Value → Sem Value) (r : R2) : Prop :=
  ∀ (pins : List (Addr × Obj)) (s : Shared) (σ : St) (H : Hp) (x y : V) (v u : Value) (Q : VK), Inv X pins σ H s → RelV x v → RelV y u → r x y H Q →
    wpAny (model X.prog X.w) X.A (f v u) (EP X pins σ Q) X.xe s
noncomputable def UnR (X : Cx) (f : Value → Sem Value) (r : V → Hp → VK → Prop) : Prop :=
  ∀ (pins : List (Addr × Obj)) (s : Shared) (σ : St) (H : Hp) (x : V) (v : Value) (Q : VK), Inv X pins σ H s → RelV x v → r x H Q →
    wpAny (model X.prog X.w) X.A (f v) (EP X pins σ Q) X.xe s
noncomputable def CallR (X : Cx) (f : Value) (r : List V → Hp → VK → Prop) : Prop :=
  ∀ (pins : List (Addr × Obj)) (s : Shared) (σ : St) (H : Hp) (xs : List V) (us : List Value) (Q : VK), Inv X pins σ H s → Vals xs us → r xs H Q →
    wpAny (model X.prog X.w) X.A (call f us) (EP X pins σ Q) X.xe s
noncomputable def TruR (X : Cx) (r : V → Hp → (Bool → Hp → Prop) → Prop) : Prop :=
  ∀ (pins : List (Addr × Obj)) (s : Shared) (σ : St) (H : Hp) (x : V) (v : Value) (Q : Bool → Hp → Prop), Inv X pins σ H s → RelV x v → r x H Q →
    wpAny (model X.prog X.w) X.A (truthy v) (TP X pins σ Q) X.xe s
noncomputable def tOp (r : R2) (ta tb : TE) : TE := fun σ H Q => ta σ H fun x H1 => tb σ H1 fun y H2 => r x y H2 Q
noncomputable def tUn (r : V → Hp → VK → Prop) (ta : TE) : TE := fun σ H Q => ta σ H fun x H1 => r x H1 Q
noncomputable def rI (C : Int → Int → Prop) (g : Int → Int → V) : R2 := fun x y H Q => ∃ i j, x = .int i ∧ y = .int j ∧ C i j ∧ Q (g i j) H
noncomputable def rI0 (g : Int → Int → V) : R2 := fun x y H Q => ∃ i j, x = .int i ∧ y = .int j ∧ Q (g i j) H
noncomputable def rU (g : Int → V) : V → Hp → VK → Prop := fun x H Q => ∃ i, x = .int i ∧ Q (g i) H
section
variable {X : Cx} {a b c : Expr} {ta tb tc : TE} {pos : Pos}
theorem binT (ha : PE X a ta) (hb : PE X b tb) {pins : List (Addr × Obj)} {s : Shared} {σ : St} {H : Hp} {R : V → V → Hp → Prop} (I : Inv X pins σ H s)
    (h : ta σ H fun x H1 => tb σ H1 fun y H2 => R x y H2) {Q : Value → Shared → Prop} {f : Value → Value → Sem Value}
    (hf : ∀ v u s2 x y H2, Inv X pins σ H2 s2 → RelV x v → RelV y u → R x y H2 → wpAny (model X.prog X.w) X.A (f v u) Q X.xe s2) :
    wpAny (model X.prog X.w) X.A (eval a X.env) (fun v s₁ => wpAny (model X.prog X.w) X.A (eval b X.env) (fun u s₂ => wpAny (model X.prog X.w) X.A (f v u) Q X.xe s₂) X.xe s₁) X.xe s := by
  refine thn (ha pins s σ H _ I h) fun v s1 ⟨x, H1, I1, r1, q1⟩ => ?_
  refine thn (hb pins s1 σ H1 _ I1 q1) fun u s2 ⟨y, H2, I2, r2, q2⟩ => ?_
  exact hf v u s2 x y H2 I2 r1 r2 q2
theorem pe_op {op : Operator} {r : R2} (ho : OpR X (binaryOp op) r) (ha : PE X a ta) (hb : PE X b tb) : PE X (.BinOp a op b pos) (tOp r ta tb) := by
  intro pins s σ H Q I h
  exact wpAny_BinOp (binT ha hb I h fun v u s2 x y H2 I2 rx ry q => ho pins s2 σ H2 x y v u Q I2 rx ry q)
theorem pe_un {op : UnaryOp} {r : V → Hp → VK → Prop} (ho : UnR X (unaryOp op) r) (ha : PE X a ta) : PE X (.UnaryOp op a pos) (tUn r ta) := by
  intro pins s σ H Q I h
  exact UnaryOp_ (thn (ha pins s σ H _ I h) fun v s1 ⟨x, H1, I1, r1, q1⟩ => ho pins s1 σ H1 x v Q I1 r1 q1)
theorem opI {f : Value → Value → Sem Value} {C : Int → Int → Prop} {g : Int → Int → Int}
    (rule : ∀ (i j : Int) (t u : Tok) (s : Shared) (Q : Value → Shared → Prop) (E : Value → Shared → Prop), C i j → Q (.int (g i j) s.toks) { s with toks := s.toks + 1 } → wpAny (model X.prog X.w) X.A (f (.int i t) (.int j u)) Q E s) :
    OpR X f (rI C fun i j => .int (g i j)) := by
  intro pins s σ H x y v u Q I rx ry h
  obtain ⟨i, j, rfl, rfl, hc, q⟩ := h
  obtain ⟨t, rfl⟩ := rx
  obtain ⟨t', rfl⟩ := ry
  exact rule i j t t' s _ _ hc ⟨.int (g i j), H, I.tok _, ⟨_, rfl⟩, q⟩
theorem opI0 {f : Value → Value → Sem Value} {g : Int → Int → Int}
    (rule : ∀ (i j : Int) (t u : Tok) (s : Shared) (Q : Value → Shared → Prop) (E : Value → Shared → Prop), Q (.int (g i j) s.toks) { s with toks := s.toks + 1 } → wpAny (model X.prog X.w) X.A (f (.int i t) (.int j u)) Q E s) :
    OpR X f (rI0 fun i j => .int (g i j)) := by
  intro pins s σ H x y v u Q I rx ry h
  obtain ⟨i, j, rfl, rfl, q⟩ := h
  obtain ⟨t, rfl⟩ := rx
  obtain ⟨t', rfl⟩ := ry
  exact rule i j t t' s _ _ ⟨.int (g i j), H, I.tok _, ⟨_, rfl⟩, q⟩
theorem opB0 {f : Value → Value → Sem Value} {g : Int → Int → Bool}
    (rule : ∀ (i j : Int) (t u : Tok) (s : Shared) (Q : Value → Shared → Prop) (E : Value → Shared → Prop), Q (.bool (g i j)) s → wpAny (model X.prog X.w) X.A (f (.int i t) (.int j u)) Q E s) :
    OpR X f (rI0 fun i j => .bl (g i j)) := by
  intro pins s σ H x y v u Q I rx ry h
  obtain ⟨i, j, rfl, rfl, q⟩ := h
  obtain ⟨t, rfl⟩ := rx
  obtain ⟨t', rfl⟩ := ry
  exact rule i j t t' s _ _ ⟨.bl (g i j), H, I, rfl, q⟩
noncomputable def CDiv (i j : Int) : Prop := 0 < j ∧ j < 1073741824
noncomputable def CMul (i j : Int) : Prop := (-(2 ^ 64) < i ∧ i < 2 ^ 64) ∨ (-(2 ^ 64) < j ∧ j < 2 ^ 64)
theorem CMul.ok {i j : Int} (h : CMul i j) : IntMulOk i j := by
  rcases h with ⟨h1, h2⟩ | ⟨h1, h2⟩
  · exact .of_left (intBits_le_64 h1 h2)
  · exact .of_right (intBits_le_64 h1 h2)
theorem op_add : OpR X (binaryOp .Add) (rI0 fun i j => .int (i + j)) := opI0 fun _ _ _ _ _ _ _ q => add_int q
theorem op_sub : OpR X (binaryOp .Sub) (rI0 fun i j => .int (i - j)) := opI0 fun _ _ _ _ _ _ _ q => sub_int q
theorem op_mul : OpR X (binaryOp .Mult) (rI CMul fun i j => .int (i * j)) := opI fun _ _ _ _ _ _ _ hc q => mul_int q hc.ok
theorem op_fdiv : OpR X (binaryOp .FloorDiv) (rI CDiv fun i j => .int (i / j)) := opI fun i j _ _ _ _ _ hc q => by
  have h1 : (0 : Int) < j := hc.1
  have h2 : j < 1073741824 := hc.2
  exact floordiv_int (by omega) (by rw [Int.fdiv_eq_ediv_of_nonneg i (by omega)]; exact q) (.inl (PyProof.noPylong_small (by omega)))
theorem op_mod : OpR X (binaryOp .Mod) (rI (fun _ j => 0 < j) fun i j => .int (i % j)) := opI fun i j _ _ _ _ _ hc q => by
  have h1 : (0 : Int) < j := hc
  exact mod_int' (by omega) (by rw [Int.fmod_eq_emod_of_nonneg i (by omega)]; exact q)
theorem unI {f : Value → Sem Value} {g : Int → Int}
    (rule : ∀ (i : Int) (t : Tok) (s : Shared) (Q : Value → Shared → Prop) (E : Value → Shared → Prop), Q (.int (g i) s.toks) { s with toks := s.toks + 1 } → wpAny (model X.prog X.w) X.A (f (.int i t)) Q E s) :
    UnR X f (rU fun i => .int (g i)) := by
  intro pins s σ H x v Q I rx h
  obtain ⟨i, rfl, q⟩ := h
  obtain ⟨t, rfl⟩ := rx
  exact rule i t s _ _ ⟨.int (g i), H, I.tok _, ⟨_, rfl⟩, q⟩
theorem un_neg : UnR X (unaryOp .USub) (rU fun i => .int (-i)) := unI fun _ _ _ _ _ q => neg_int q
end
noncomputable def scal : V → V → Bool
  | .non, .non => true | .non, .int _ => true | .int _, .non => true | .non, .bl _ => true | .bl _, .non => true | .non, .str _ => true | .str _, .non => true
  | .int _, .int _ => true | .bl _, .bl _ => true | .str _, .str _ => true | .byt _, .byt _ => true
  | .int _, .str _ => true | .str _, .int _ => true | .bl _, .str _ => true | .str _, .bl _ => true
  | _, _ => false
noncomputable def rNe : R2 := fun x y H Q => scal x y = true ∧ Q (.bl (!decide (x = y))) H
theorem dec_int {i j : Int} : decide (V.int i = V.int j) = (i == j) := by
  rw [Bool.eq_iff_iff]
  simp
theorem dec_bl {i j : Bool} : decide (V.bl i = V.bl j) = (i == j) := by
  rw [Bool.eq_iff_iff]
  simp
theorem dec_str {i j : Str} : decide (V.str i = V.str j) = (i == j) := by
  rw [Bool.eq_iff_iff]
  simp
theorem dec_byt {i j : Array UInt8} : decide (V.byt i = V.byt j) = (i.toList == j.toList) := by
  rw [Bool.eq_iff_iff]
  cases i
  cases j
  simp
section
variable {X : Cx} {a b c : Expr} {ta tb tc : TE} {pos : Pos}
theorem fin_bl {pins : List (Addr × Obj)} {σ : St} {H : Hp} {s : Shared} {Q : VK} {k k' : Bool} (I : Inv X pins σ H s) (q : Q (.bl k) H) (e : k = k') : EP X pins σ Q (.bool k') s := by
  subst e
  exact ⟨.bl k, H, I, rfl, q⟩
theorem op_ne : OpR X (compareOp .NotEq) rNe := by
  intro pins s σ H x y v u Q I rx ry h
  obtain ⟨hs, q⟩ := h
  cases x with
  | non =>
    cases rx
    cases y with
    | non => cases ry; exact PySem.EqNone.ne_none_none (fin_bl I q (by simp))
    | bl j => cases ry; exact PySem.EqNone.ne_none_bool (fin_bl I q (by simp))
    | int j => obtain ⟨t', rfl⟩ := ry; exact PySem.EqNone.ne_none_int (fin_bl I q (by simp))
    | str j => obtain ⟨t', rfl⟩ := ry; exact PySem.EqNone.ne_none_str (fin_bl I q (by simp))
    | _ => exact absurd (show false = true from hs) Bool.false_ne_true
  | bl i =>
    cases rx
    cases y with
    | non => cases ry; exact PySem.EqNone.ne_bool_none (fin_bl I q (by simp))
    | bl j => cases ry; exact ne_bool (fin_bl I q (congrArg not dec_bl))
    | str j => obtain ⟨t', rfl⟩ := ry; exact PySem.EqMixed.ne_bool_str (fin_bl I q (by simp))
    | _ => exact absurd (show false = true from hs) Bool.false_ne_true
  | int i =>
    obtain ⟨t, rfl⟩ := rx
    cases y with
    | non => cases ry; exact PySem.EqNone.ne_int_none (fin_bl I q (by simp))
    | int j => obtain ⟨t', rfl⟩ := ry; exact ne_int (fin_bl I q (congrArg not dec_int))
    | str j => obtain ⟨t', rfl⟩ := ry; exact PySem.EqMixed.ne_int_str (fin_bl I q (by simp))
    | _ => exact absurd (show false = true from hs) Bool.false_ne_true
  | str i =>
    obtain ⟨t, rfl⟩ := rx
    cases y with
    | non => cases ry; exact PySem.EqNone.ne_str_none (fin_bl I q (by simp))
    | bl j => cases ry; exact PySem.EqMixed.ne_str_bool (fin_bl I q (by simp))
    | int j => obtain ⟨t', rfl⟩ := ry; exact PySem.EqMixed.ne_str_int (fin_bl I q (by simp))
    | str j => obtain ⟨t', rfl⟩ := ry; exact ne_str (fin_bl I q (congrArg not dec_str))
    | _ => exact absurd (show false = true from hs) Bool.false_ne_true
  | byt i =>
    obtain ⟨t, rfl⟩ := rx
    cases y with
    | byt j => obtain ⟨t', rfl⟩ := ry; exact PySem.W.ne_bytes (fin_bl I q (congrArg not dec_byt))
    | _ => exact absurd (show false = true from hs) Bool.false_ne_true
  | _ => cases y <;> exact absurd (show false = true from hs) Bool.false_ne_true
theorem op_lt : OpR X (compareOp .Lt) (rI0 fun i j => .bl (decide (i < j))) := opB0 fun _ _ _ _ _ _ _ q => lt_int q
theorem op_gt : OpR X (compareOp .Gt) (rI0 fun i j => .bl (decide (j < i))) := opB0 fun _ _ _ _ _ _ _ q => gt_int q
theorem op_in_str : OpR X (compareOp .In) (fun x y H Q => ∃ i j, x = .str i ∧ y = .str j ∧ Q (.bl (!(Builtin.Str.occurrences j i 0 j.length 1).isEmpty)) H) := by
  intro pins s σ H x y v u Q I rx ry h
  obtain ⟨i, j, rfl, rfl, q⟩ := h
  obtain ⟨t, rfl⟩ := rx
  obtain ⟨t', rfl⟩ := ry
  exact in_str (fin_bl I q rfl)
theorem op_isN : OpR X (compareOp .Is) (fun x y H Q => y = .non ∧ Q (.bl (decide (x = .non))) H) := by
  intro pins s σ H x y v u Q I rx ry h
  obtain ⟨rfl, q⟩ := h
  cases ry
  refine is_none_gen (fin_bl I q ?_)
  cases x <;> first
    | (cases rx; rfl)
    | (obtain ⟨t, rfl⟩ := rx; rfl)
theorem op_notN : OpR X (compareOp .IsNot) (fun x y H Q => y = .non ∧ Q (.bl (!decide (x = .non))) H) := by
  intro pins s σ H x y v u Q I rx ry h
  obtain ⟨rfl, q⟩ := h
  cases ry
  refine isnot_none_gen (fin_bl I q ?_)
  cases x <;> first
    | (cases rx; rfl)
    | (obtain ⟨t, rfl⟩ := rx; rfl)
theorem op_notin_str : OpR X (compareOp .NotIn) (fun x y H Q => ∃ i j, x = .str i ∧ y = .str j ∧ Q (.bl (!(!(Builtin.Str.occurrences j i 0 j.length 1).isEmpty))) H) := by
  intro pins s σ H x y v u Q I rx ry h
  obtain ⟨i, j, rfl, rfl, q⟩ := h
  obtain ⟨t, rfl⟩ := rx
  obtain ⟨t', rfl⟩ := ry
  exact notIn_str (fin_bl I q rfl)
theorem nomark (b : Expr) {op : CmpOp} (h : op ≠ .In := by decide) (h2 : op ≠ .NotIn := by decide) : behindInMarks op b = false := by
  have e1 : (op == CmpOp.In) = false := by cases op <;> first | rfl | exact absurd rfl h
  have e2 : (op == CmpOp.NotIn) = false := by cases op <;> first | rfl | exact absurd rfl h2
  cases b <;> simp [behindInMarks, e1, e2]
theorem pe_cmpR {op : CmpOp} {r : R2} (ho : OpR X (compareOp op) r) (ha : PE X a ta) (hb : PE X b tb) (hm : behindInMarks op b = false) : PE X (.Compare a [op] [b] pos) (tOp r ta tb) := by
  intro pins s σ H Q I h
  exact wpAny_Compare1 (binT ha hb I h fun v u s2 x y H2 I2 rx ry q => ho pins s2 σ H2 x y v u Q I2 rx ry q) hm
noncomputable def tTest (t : TE) : TT := fun σ H Q => t σ H fun x H' => ∃ k, x = .bl k ∧ Q k H'
theorem pt_cmpR {op : CmpOp} {r : R2} (ho : OpR X (compareOp op) r) (ha : PE X a ta) (hb : PE X b tb) (hm : behindInMarks op b = false) : PT X (.Compare a [op] [b] pos) (tTest (tOp r ta tb)) := by
  intro pins s σ H Q I h
  refine wpAny_isTrue_Compare1 (thn (ha pins s σ H _ I h) fun v s1 ⟨x, H1, I1, r1, q1⟩ => thn (hb pins s1 σ H1 _ I1 q1) fun u s2 ⟨y, H2, I2, r2, q2⟩ =>
    thn (ho pins s2 σ H2 x y v u _ I2 r1 r2 q2) fun c s3 ⟨z, H3, I3, r3, k, e, q3⟩ => ?_) hm
  subst e
  cases r3
  exact wpAny_truthy_bool ⟨H3, I3, q3⟩
noncomputable def TruV (K : PySem.W.Frag) (x : V) (H : Hp) (k : Bool) : Prop :=
  match x with
  | .non => k = false
  | .bl b => k = b
  | .int i => k = (i != 0)
  | .str y => y.length ≤ sizeLine ∧ k = ((y.length : Int) != 0)
  | .byt y => y.size ≤ sizeLine ∧ k = ((y.size : Int) != 0)
  | .ref p => (∃ xs, SqL K H p xs ∧ k = !xs.isEmpty) ∨ (∃ xs, SqT K H p xs ∧ k = !xs.isEmpty) ∨ ∃ kvs, H p = some (.dK kvs) ∧ k = !kvs.isEmpty
  | _ => False
theorem isEmpty_kv {κ : Type} {kvs : List (κ × V)} {vs : List (κ × Value)} (r : KV kvs vs) : (!vs.isEmpty) = !kvs.isEmpty := by
  cases r <;> rfl
theorem isEmpty_of {xs : List V} {its : List Value} (r : Vals xs its) : (!its.toArray.isEmpty) = !xs.isEmpty := by
  cases r <;> simp
theorem line63 : (sizeLine : Nat) < 2 ^ 63 := by rw [sizeLine_eq]; decide
theorem tru_ok : TruR X (fun x H Q => ∃ k, TruV X.K x H k ∧ Q k H) := by
  intro pins s σ H x v Q I rx h
  obtain ⟨k, e, q⟩ := h
  have hl := line63
  have hs : sizeLine = 16777216 := sizeLine_eq
  cases x with
  | non =>
    cases rx
    have e' : k = false := e
    subst e'
    exact truthy_none ⟨H, I, q⟩
  | bl b =>
    cases rx
    have e' : k = b := e
    subst e'
    exact wpAny_truthy_bool ⟨H, I, q⟩
  | int i =>
    obtain ⟨t, rfl⟩ := rx
    have e' : k = (i != 0) := e
    subst e'
    exact PySem.P.truthy_int ⟨H, I, q⟩
  | str y =>
    obtain ⟨t, rfl⟩ := rx
    obtain ⟨hy, e'⟩ : y.length ≤ sizeLine ∧ k = ((y.length : Int) != 0) := e
    subst e'
    exact PySem.P.truthy_str (by omega) ⟨H, I.tok _, q⟩
  | byt y =>
    obtain ⟨t, rfl⟩ := rx
    obtain ⟨hy, e'⟩ : y.size ≤ sizeLine ∧ k = ((y.size : Int) != 0) := e
    subst e'
    exact PySem.W.truthy_bytes (by omega) ⟨H, I.tok _, q⟩
  | ref p =>
    cases rx
    have e' : (∃ xs, SqL X.K H p xs ∧ k = !xs.isEmpty) ∨ (∃ xs, SqT X.K H p xs ∧ k = !xs.isEmpty) ∨ ∃ kvs, H p = some (.dK kvs) ∧ k = !kvs.isEmpty := e
    rcases e' with ⟨xs, hx, e'⟩ | ⟨xs, hx, e'⟩ | ⟨kvs, hx, e'⟩
    · subst e'
      obtain ⟨its, r, pl, hz⟩ := I.list hx
      have hlen := r.length
      exact wpAny_truthy_list pl.isList (by simp only [List.size_toArray]; omega) ⟨H, I.tok _, by rw [isEmpty_of r]; exact q⟩
    · subst e'
      obtain ⟨its, r, pl, hz⟩ := I.tuple hx
      have hlen := r.length
      exact truthy_tuple pl (by simp only [List.size_toArray]; omega) ⟨H, I.tok _, by rw [isEmpty_of r]; exact q⟩
    · subst e'
      obtain ⟨hz, hS, vs, r, m⟩ : kvs.length ≤ sizeLine ∧ (p == sysModules) = false ∧ ∃ vs, KV kvs vs ∧ s.heap.DictOf (mixKind X.prog X.w) p vs := I.hok p _ hx
      have hlen : kvs.length = vs.length := Paired.length r
      exact wpAny_truthy_dict hS m (by omega) ⟨H, I.tok _, by rw [isEmpty_kv r]; exact q⟩
  | _ => exact (show False from e).elim
theorem pt_truth (ha : PE X a ta) (he : ∀ whole, isTrue a X.env whole = (do let v ← whole; standAt a.pos; holding [v] (truthy v))) :
    PT X a (fun σ H Q => ta σ H fun x H' => ∃ k, TruV X.K x H' k ∧ Q k H') := by
  intro pins s σ H Q I h
  exact isTrue_plain (thn (ha pins s σ H _ I h) fun v s1 ⟨x, H1, I1, r1, q1⟩ => tru_ok pins s1 σ H1 x v Q I1 r1 q1) (he _)
theorem op_add_str : OpR X (binaryOp .Add) (fun x y H Q => ∃ i j, x = .str i ∧ y = .str j ∧ i.length + j.length ≤ sizeLine ∧ Q (.str (i ++ j)) H) := by
  intro pins s σ H x y v u Q I rx ry h
  obtain ⟨i, j, rfl, rfl, hz, q⟩ := h
  obtain ⟨t, rfl⟩ := rx
  obtain ⟨t', rfl⟩ := ry
  exact add_str (fun t' tk => ⟨.str (i ++ j), H, I.tok _, ⟨_, rfl⟩, q⟩) hz
theorem vals1 {x : V} {us : List Value} (r : Vals [x] us) : ∃ u, us = [u] ∧ RelV x u := by
  cases r with
  | cons r1 r2 => cases r2; exact ⟨_, rfl, r1⟩
theorem vals2 {x y : V} {us : List Value} (r : Vals [x, y] us) : ∃ u w', us = [u, w'] ∧ RelV x u ∧ RelV y w' := by
  cases r with
  | cons r1 r2 =>
    cases r2 with
    | cons r3 r4 => cases r4; exact ⟨_, _, rfl, r1, r3⟩
theorem call_max2 (hc : X.calm = true) : CallR X (.builtin "max") (fun xs H Q => ∃ i j, xs = [.int i, .int j] ∧ Q (.int (if j > i then j else i)) H) := by
  intro pins s σ H xs us Q I r h
  obtain ⟨i, j, rfl, q⟩ := h
  obtain ⟨u, w', rfl, ⟨t, rfl⟩, ⟨t', rfl⟩⟩ := vals2 r
  refine max_two_ints (I.ok.hd hc) fun h' tk k => ⟨_, H, I.kept k, ?_, q⟩
  by_cases hj : j > i
  · rw [if_pos hj, if_pos hj]; exact ⟨_, rfl⟩
  · rw [if_neg hj, if_neg hj]; exact ⟨_, rfl⟩
noncomputable def LenV (K : PySem.W.Frag) (x : V) (H : Hp) (n : Nat) : Prop :=
  match x with
  | .str y => y.length ≤ sizeLine ∧ n = y.length
  | .byt y => y.size ≤ sizeLine ∧ n = y.size
  | .ref p => (∃ xs, SqL K H p xs ∧ n = xs.length) ∨ ∃ xs, SqT K H p xs ∧ n = xs.length
  | _ => False
theorem call_len : CallR X (.builtin "len") (fun xs H Q => ∃ x n, xs = [x] ∧ LenV X.K x H n ∧ Q (.int n) H) := by
  intro pins s σ H xs us Q I r h
  obtain ⟨x, n, rfl, e, q⟩ := h
  obtain ⟨u, rfl, rx⟩ := vals1 r
  have hl := line63
  have hs : sizeLine = 16777216 := sizeLine_eq
  cases x with
  | str y =>
    obtain ⟨t, rfl⟩ := rx
    obtain ⟨hy, e'⟩ : y.length ≤ sizeLine ∧ n = y.length := e
    subst e'
    exact len_str (by omega) ⟨.int _, H, I.tok _, ⟨_, rfl⟩, q⟩
  | byt y =>
    obtain ⟨t, rfl⟩ := rx
    obtain ⟨hy, e'⟩ : y.size ≤ sizeLine ∧ n = y.size := e
    subst e'
    exact PySem.W.len_bytes (by omega) ⟨.int _, H, I.tok _, ⟨_, rfl⟩, q⟩
  | ref p =>
    cases rx
    have e' : (∃ xs, SqL X.K H p xs ∧ n = xs.length) ∨ ∃ xs, SqT X.K H p xs ∧ n = xs.length := e
    rcases e' with ⟨xs, hx, e'⟩ | ⟨xs, hx, e'⟩
    · subst e'
      obtain ⟨its, r', pl, hz⟩ := I.list hx
      have hlen := r'.length
      exact Calls.call_len_list pl.isList (by simp only [List.size_toArray]; omega) ⟨.int xs.length, H, I.tok _, ⟨_, by simp only [List.size_toArray]; rw [hlen]⟩, q⟩
    · subst e'
      obtain ⟨its, r', pl, hz⟩ := I.tuple hx
      have hlen := r'.length
      exact len_tuple pl (by simp only [List.size_toArray]; omega) ⟨.int xs.length, H, I.tok _, ⟨_, by simp only [List.size_toArray]; rw [hlen]⟩, q⟩
  | _ => exact (show False from e).elim
end
end L2
namespace L2
open PySem PySem.Spec PyProof.Rows
structure ObjM (h : Heap) (x dx C : Addr) (mA : Str → Option Value) : Prop where
  obj : h.get? x = some (PySem.W.instObj C dx)
  ns : h.Ns1 dx mA
  ne : dx ≠ x
theorem lookIn_ns {h : Heap} {dx : Addr} {mA : Str → Option Value} (n : h.Ns1 dx mA) : ∃ od, h.get? dx = some od ∧ ∀ name, PySem.W.lookIn name od = some (mA name) := by
  obtain ⟨o, es, ep, ho, hd, hk, _, hm⟩ := n
  refine ⟨o, ho, fun name => ?_⟩
  have e := hm name
  unfold nsFind findBy at e
  rw [← Array.find?_toList] at e
  unfold PySem.W.lookIn
  rw [hd]
  dsimp only
  split
  · rename_i y q
    rw [q] at e
    exact congrArg some e
  · rename_i q
    rw [q] at e
    have a : es.toList.any (·.refKey) = false := by
      rw [List.any_eq_false]
      intro y hy
      obtain ⟨z, t, hkey⟩ := hk y (Array.mem_toList_iff.mp hy)
      simp [DictEntry.refKey, hkey]
    have a' : ¬ es.toList.any (·.refKey) = true := by rw [a]; exact Bool.false_ne_true
    rw [if_neg a']
    exact congrArg some e
theorem ObjM.look {h : Heap} {x dx C : Addr} {mA : Str → Option Value} (I : ObjM h x dx C mA) : ∃ od, PySem.W.InstAt h x (PySem.W.instObj C dx) C (some od) ∧ ∀ name, PySem.W.lookIn name od = some (mA name) :=
  let ⟨od, ho, hl⟩ := lookIn_ns I.ns
  ⟨od, ⟨I.obj, rfl, rfl, ho⟩, hl⟩
section
variable {prog : Program} {w : World} {A : Around} {E : Value → Shared → Prop} {s : Shared} {K : PySem.W.Frag} {x dx C f : Addr} {mA : Str → Option Value} {name : Str} {v : Value}
theorem get_map {expr : Bool} {Q : Value → Shared → Prop} (X : K.In s.heap) (I : ObjM s.heap x dx C mA) (hg : PySem.W.plainGet K C name = true) (hh : PySem.W.hasDictIn K C = true)
    (ha : PySem.W.findIn K (.ref C) name = some none) (hv : mA name = some v) (hv' : PySem.W.handedIn v = true) (h : Q v { s with toks := s.toks + 1 }) :
    wpAny (model prog w) A (getAttr (.ref x) name expr) Q E s := by
  obtain ⟨od, J, hl⟩ := I.look
  exact PySem.W.get_value X J (PySem.W.plainGet_of hg).1 (PySem.W.findObj_own hh ha rfl (by rw [hl, hv])) hv' h
theorem get_meth {pl : Sem Bool} {Q : Value × List Value → Shared → Prop} (X : K.In s.heap) (I : ObjM s.heap x dx C mA) (hg : PySem.W.plainGet K C name = true)
    (hf : PySem.W.findIn K (.ref C) name = some (some (.ref f))) (ht : PySem.W.isFn K (.ref f) = true) (hv : mA name = none) (h : Q (.ref f, [.ref x]) s) :
    wpAny (model prog w) A (getMethod (.ref x) name pl) Q E s := by
  obtain ⟨od, J, hl⟩ := I.look
  exact PySem.W.method_fn X J (PySem.W.plainGet_of hg).1 (PySem.W.plainGet_of hg).2 hf (beq_iff_eq.mp ht) (by show (PySem.W.lookIn name od).map (·.isSome) = some false; rw [hl, hv]; rfl) h
theorem set_map {ns : List Str} {Q : Unit → Shared → Prop} (X : K.In s.heap) (I : ObjM s.heap x dx C mA)
    (hs : PySem.W.findIn K (.ref C) "__setattr__" = some (some (.builtin "object.__setattr__"))) (hp : PySem.W.plainOver K C = true) (ht : PySem.W.takerIn K C name = some none) (hh : PySem.W.hasDictIn K C = true)
    (hw : PySem.Within mA ns) (hsz : ns.length ≤ sizeLine)
    (h : ∀ h', ObjM h' x dx C (fun y => if y = name then some v else mA y) → Heap.SameBut dx s.heap h' → Q () { s with heap := h', toks := s.toks + 2 }) :
    wpAny (model prog w) A (setAttr (.ref x) name v) Q E s := by
  obtain ⟨od, J, hl⟩ := I.look
  refine PySem.W.set_plain X J hs (PySem.W.osa_open (s := { s with toks := s.toks + 1 }) (r := none) X J hp ht fun b => ?_)
  obtain ⟨cd, hc, hd'⟩ := PySem.W.any_some hh
  have hx : s.heap.get? x = some ⟨.ref C, some dx, .plain, #[]⟩ := I.obj
  refine wpAny_bind (wpAny_pure (wpAny_bind (wpAny_bind (wpAny_loadPart hx (wpAny_bind (PySem.W.Looks.here (s := { s with toks := s.toks + 1 }) (PySem.W.looks_clsIn X hc) ?_))))))
  rw [hd']
  refine wpAny_pure (a := some dx) (wpAny_bind (wpAny_pure (wpAny_bind ?_)))
  refine wpAny_nsSet1 (s := { s with toks := s.toks + 1 }) I.ns fun h' hn2 hs2 => ?_
  obtain ⟨oD, esD, epD, hoD, hdD, hcD⟩ := hn2.count (PySem.Within.cons name v hw)
  refine wpAny_bind (wpAny_lookBehind hoD (by rw [hdD]; exact pastItsLine_dict (Nat.le_trans hcD (by rw [List.length_cons]; omega))) ?_)
  exact wpAny_pure (h _ ⟨(hs2.2 _ (Ne.symm I.ne)).trans I.obj, hn2, I.ne⟩ hs2)
theorem make_map {R : Result → Shared → Prop} {vs : List Value} {kw : List (Str × Value)} (X : K.In s.heap) (hm : PySem.W.makesIn K C = true)
    (hi : PySem.W.findIn K (.ref C) "__init__" = some (some (.ref f))) (hf : PySem.W.typeIn K (.ref f) = some (.type "function"))
    (h : codeAny (model prog w) (A.under (.builtin "type.__call__" ⟨.ref C :: vs, kw⟩)) (.call (.ref f) ⟨.ref (s.heap.objs.size + 1) :: vs, kw⟩) (PySem.W.InitBack (s.heap.objs.size + 1) R)
      { s with heap := (s.heap.push PySem.W.emptyDict).push (PySem.W.instObj C s.heap.objs.size) }) :
    codeAny (model prog w) A (.call (.ref C) ⟨vs, kw⟩) R s := by
  obtain ⟨hh, g, d, t, os⟩ := s
  exact PySem.W.make_core (PySem.W.makes_of X hm) (PySem.W.looks_findIn X hi) (fun self => PySem.W.bind_fn X self hf) (.inl rfl) h
end
noncomputable def putF (f : Str) (v : V) : List (Str × V) → List (Str × V)
  | [] => [(f, v)]
  | (g, x) :: r => if g = f then (g, v) :: r else (g, x) :: putF f v r
theorem lookup_putF (f g : Str) (v : V) : ∀ fs : List (Str × V), (putF f v fs).lookup g = if g = f then some v else fs.lookup g
  | [] => by
    show List.lookup g [(f, v)] = _
    by_cases h : g = f
    · have hb : (g == f) = true := beq_iff_eq.mpr h
      simp only [List.lookup, hb, if_pos h]
    · have hb : (g == f) = false := beq_eq_false_iff_ne.mpr h
      simp only [List.lookup, hb, if_neg h]
  | (k, x) :: r => by
    have ih := lookup_putF f g v r
    rw [show putF f v ((k, x) :: r) = (if k = f then (k, v) :: r else (k, x) :: putF f v r) from rfl]
    by_cases hk : k = f
    · rw [if_pos hk]
      by_cases h : g = k
      · have hb : (g == k) = true := beq_iff_eq.mpr h
        simp only [List.lookup, hb, if_pos (h.trans hk)]
      · have hb : (g == k) = false := beq_eq_false_iff_ne.mpr h
        simp only [List.lookup, hb, if_neg (fun e : g = f => h (e.trans hk.symm))]
    · rw [if_neg hk]
      by_cases h : g = k
      · have hb : (g == k) = true := beq_iff_eq.mpr h
        simp only [List.lookup, hb, if_neg (fun e : g = f => hk (h.symm.trans e))]
      · have hb : (g == k) = false := beq_eq_false_iff_ne.mpr h
        simp only [List.lookup, hb]
        exact ih
theorem keys_putF (f : Str) (v : V) : ∀ fs : List (Str × V), f ∈ (putF f v fs).map (·.1) ∧ ∀ g, g ∈ fs.map (·.1) → g ∈ (putF f v fs).map (·.1)
  | [] => ⟨by simp [putF], fun g h => by simp at h⟩
  | (k, x) :: r => by
    obtain ⟨i1, i2⟩ := keys_putF f v r
    rw [show putF f v ((k, x) :: r) = (if k = f then (k, v) :: r else (k, x) :: putF f v r) from rfl]
    by_cases hk : k = f
    · rw [if_pos hk]
      subst hk
      exact ⟨by simp, fun g h => by simpa using h⟩
    · rw [if_neg hk]
      refine ⟨?_, fun g h => ?_⟩
      · rw [List.map_cons]
        exact List.mem_cons_of_mem _ i1
      · rw [List.map_cons] at h ⊢
        rcases List.mem_cons.mp h with e | e
        · exact List.mem_cons.mpr (.inl e)
        · exact List.mem_cons_of_mem _ (i2 g e)
theorem length_putF (f : Str) (v : V) : ∀ fs : List (Str × V), (putF f v fs).length ≤ fs.length + 1
  | [] => by simp [putF]
  | (k, x) :: r => by
    have ih := length_putF f v r
    rw [show putF f v ((k, x) :: r) = (if k = f then (k, v) :: r else (k, x) :: putF f v r) from rfl]
    by_cases hk : k = f
    · rw [if_pos hk, List.length_cons, List.length_cons]; omega
    · rw [if_neg hk, List.length_cons, List.length_cons]; omega
theorem RelO.some_of {v : V} {o : Option Value} (r : RelO (some v) o) : ∃ u, o = some u ∧ RelV v u := by
  cases o with
  | none => exact (show False from r).elim
  | some u => exact ⟨u, rfl, r⟩
theorem RelO.none_of {o : Option Value} (r : RelO none o) : o = none := by
  cases o with
  | none => rfl
  | some u => exact (show False from r).elim
theorem handed_of {v : V} {u : Value} (r : RelV v u) : PySem.W.handedIn u = true := by
  cases v with
  | non => cases (show u = Value.none from r); rfl
  | bl b => cases (show u = Value.bool b from r); rfl
  | int i => obtain ⟨t, e⟩ := (show ∃ t, u = Value.int i t from r); cases e; rfl
  | str x => obtain ⟨t, e⟩ := (show ∃ t, u = Value.str x t from r); cases e; rfl
  | byt b => obtain ⟨t, e⟩ := (show ∃ t, u = Value.bytes b t from r); cases e; rfl
  | flt b => obtain ⟨t, e⟩ := (show ∃ t, u = Value.float b t from r); cases e; rfl
  | ref a => cases (show u = Value.ref a from r); rfl
  | ty n => cases (show u = Value.type n from r); rfl
section
variable {P : Program} {w : World} {H H' : Hp} {h h' : Heap} {a C dx : Addr} {fs fs' : List (Str × V)}
theorem ins_get (hok : HOk P w H h) (e : H a = some (.ins C dx fs)) : ∃ mA, ObjM h a dx C mA ∧ (∀ f, RelO (fs.lookup f) (mA f)) ∧ PySem.Within mA (fs.map (·.1)) ∧ fs.length ≤ 1000 ∧ H dx = some (.own a) := by
  obtain ⟨d, z, ne, ob, mA, n, r, q⟩ := (show ObjOk P w H h a (.ins C dx fs) from hok a _ e)
  exact ⟨mA, ⟨ob, n, ne⟩, r, q, z, d⟩
end
structure Cls (K : PySem.W.Frag) (C : Addr) : Prop where
  pg : PySem.W.plainGet K C Str.empty = true
  hd : PySem.W.hasDictIn K C = true
  po : PySem.W.plainOver K C = true
  sa : PySem.W.findIn K (.ref C) "__setattr__" = some (some (.builtin "object.__setattr__"))
theorem Cls.get {K : PySem.W.Frag} {C : Addr} (c : Cls K C) (f : Str) : PySem.W.plainGet K C f = true := c.pg
noncomputable def NoAttr (K : PySem.W.Frag) (C : Addr) (f : Str) : Prop := PySem.W.findIn K (.ref C) f = some none
theorem NoAttr.taker {K : PySem.W.Frag} {C : Addr} {f : Str} (n : NoAttr K C f) : PySem.W.takerIn K C f = some none := by
  unfold PySem.W.takerIn
  rw [show PySem.W.findIn K (.ref C) f = some none from n]
  rfl
structure Con (K : PySem.W.Frag) (C : Addr) (f : Str) (v : V) (u : Value) : Prop where
  at_ : PySem.W.findIn K (.ref C) f = some (some u)
  rel : RelV v u
  get : PySem.W.specialIn K u "__get__" = some none
  cp : PySem.W.copiedNames.contains f = false
structure Meth (K : PySem.W.Frag) (C : Addr) (m : Str) (f : Addr) : Prop where
  at_ : PySem.W.findIn K (.ref C) m = some (some (.ref f))
  fn : PySem.W.isFn K (.ref f) = true
  kp : PySem.W.keepIn K (.ref f) = true
section
variable {X : Cx} {pins : List (Addr × Obj)} {σ : St} {H : Hp} {s : Shared} {a C dx : Addr} {fs : List (Str × V)} {f : Str} {v : V} {A : Around} {E : Value → Shared → Prop}
theorem getattr_ok {b : Bool} {Q : Value → Shared → Prop} (I : Inv X pins σ H s) (e : H a = some (.ins C dx fs)) (c : Cls X.K C) (n : NoAttr X.K C f) (l : fs.lookup f = some v)
    (h : ∀ u s', Inv X pins σ H s' → RelV v u → Q u s') : wpAny (model X.prog X.w) A (getAttr (.ref a) f b) Q E s := by
  obtain ⟨mA, O, r, _, _, _⟩ := ins_get I.hok e
  obtain ⟨u, hu, ru⟩ := RelO.some_of (v := v) (o := mA f) (by rw [← l]; exact r f)
  exact get_map I.kIn O (c.get f) c.hd n hu (handed_of ru) (h u _ (I.tok _) ru)
theorem getmeth_ok {m : Str} {g : Addr} {pl : Sem Bool} {Q : Value × List Value → Shared → Prop} (I : Inv X pins σ H s) (e : H a = some (.ins C dx fs)) (c : Cls X.K C) (k : Meth X.K C m g) (l : fs.lookup m = none)
    (h : Q (.ref g, [.ref a]) s) : wpAny (model X.prog X.w) A (getMethod (.ref a) m pl) Q E s := by
  obtain ⟨mA, O, r, _, _, _⟩ := ins_get I.hok e
  have hn : mA m = none := RelO.none_of (by rw [← l]; exact r m)
  exact get_meth I.kIn O (c.get m) k.at_ k.fn hn h
theorem setattr_ok {y : V} {u : Value} {Q : Unit → Shared → Prop} (I : Inv X pins σ H s) (e : H a = some (.ins C dx fs)) (c : Cls X.K C) (n : NoAttr X.K C f) (hl : fs.length < 1000) (ry : RelV y u)
    (h : ∀ s', Inv X pins σ (upd H a (.ins C dx (putF f y fs))) s' → Q () s') : wpAny (model X.prog X.w) A (setAttr (.ref a) f u) Q E s := by
  obtain ⟨mA, O, r, wi, _, ho⟩ := ins_get I.hok e
  have hz : (fs.map (·.1)).length ≤ sizeLine := by rw [List.length_map, sizeLine_eq]; omega
  refine set_map I.kIn O c.sa c.po n.taker c.hd wi hz fun h' O' sb => h _ ?_
  have hd : ∃ o, h'.get? dx = some o := let ⟨o, _, _, e', _⟩ := O'.ns; ⟨o, e'⟩
  refine I.write (x := a) (e := dx) (by rw [e]; exact True.intro) (.inr ho) (fun b q hb z => (sb.2 b hb).trans z) hd ?_
  refine ⟨by rw [upd_ne O.ne]; exact ho, ?_, O.ne, O'.obj, _, O'.ns, fun g => ?_, fun g hg => ?_⟩
  · have := length_putF f y fs; omega
  · show RelO ((putF f y fs).lookup g) (if g = f then some u else mA g)
    rw [lookup_putF]
    by_cases q : g = f
    · rw [if_pos q, if_pos q]; exact ry
    · rw [if_neg q, if_neg q]; exact r g
  · by_cases q : g = f
    · rw [q]; exact (keys_putF f y fs).1
    · refine (keys_putF f y fs).2 g (wi g fun z => hg ?_)
      show (if g = f then some u else mA g) = none
      rw [if_neg q]; exact z
theorem Inv.made (I : Inv X pins σ H s) : Inv X pins σ (upd (upd H s.heap.objs.size (.own (s.heap.objs.size + 1))) (s.heap.objs.size + 1) (.ins C s.heap.objs.size []))
    { s with heap := (s.heap.push PySem.W.emptyDict).push (PySem.W.instObj C s.heap.objs.size) } := by
  have e1 : (s.heap.push PySem.W.emptyDict).get? s.heap.objs.size = some PySem.W.emptyDict := Heap.get?_push_size s.heap rfl
  have e2 : ((s.heap.push PySem.W.emptyDict).push (PySem.W.instObj C s.heap.objs.size)).get? (s.heap.objs.size + 1) = some (PySem.W.instObj C s.heap.objs.size) := by
    have := Heap.get?_push_size (s.heap.push PySem.W.emptyDict) (o := PySem.W.instObj C s.heap.objs.size) rfl
    rwa [Heap.size_push] at this
  have e3 : (s.heap.push PySem.W.emptyDict).Ns s.heap.objs.size (fun _ => none) := ⟨PySem.W.emptyDict, #[], _, e1, rfl, (fun e he => absurd he (by simp)), fun _ => rfl⟩
  have I1 := I.laid (a := s.heap.objs.size) (o := .own (s.heap.objs.size + 1)) (h' := s.heap.push PySem.W.emptyDict) (t' := s.toks) (fun b u q => Heap.get?_push_of_some _ q) (Nat.le_refl _) ⟨_, e1⟩
  refine I1.laid (a := s.heap.objs.size + 1) (o := .ins C s.heap.objs.size []) (t' := s.toks) (fun b u q => Heap.get?_push_of_some _ q) (Nat.le_of_eq (Heap.size_push _ _)) ?_
  have ne : s.heap.objs.size ≠ s.heap.objs.size + 1 := Nat.ne_of_lt (Nat.lt_succ_self _)
  refine ⟨by rw [upd_ne ne, upd_same], Nat.zero_le _, ne, e2, fun _ => none, (Heap.Ns1.of_empty e3).at fun o q => Heap.get?_push_of_some _ q, fun _ => True.intro, fun y hy => absurd rfl hy⟩
theorem attr_of {prog : Program} {w : World} {env : Env} {e : Expr} {f : Str} {pos : Pos} {s : Shared} {Q : Value → Shared → Prop} (hb : attributeBase e f env (eval e env) = eval e env)
    (h : wpAny (model prog w) A (eval e env) (fun o s₁ => wpAny (model prog w) A (getAttr o f true) Q E s₁) E s) : wpAny (model prog w) A (eval (.Attribute e f pos) env) Q E s :=
  Attribute_any_ h (by rw [arm_eval_Attribute, hb])
end
noncomputable def tFld (K : PySem.W.Frag) (ta : TE) (f : Str) : TE := fun σ H Q => ta σ H fun x H1 => ∃ a C dx fs v, x = .ref a ∧ H1 a = some (.ins C dx fs) ∧ Cls K C ∧ NoAttr K C f ∧ fs.lookup f = some v ∧ Q v H1
noncomputable def sFld (K : PySem.W.Frag) (ta tv : TE) (f : Str) : TS := fun D σ H => tv σ H fun y H1 => ta σ H1 fun x H2 => ∃ a C dx fs, x = .ref a ∧ H2 a = some (.ins C dx fs) ∧ Cls K C ∧ NoAttr K C f ∧ fs.length < 1000 ∧
  D.nx σ (upd H2 a (.ins C dx (putF f y fs)))
noncomputable def InOp (X : Cx) (op : Operator) (rd : V → V → Hp → VK → Prop) : Prop :=
  ∀ (pins : List (Addr × Obj)) (s : Shared) (σ : St) (H : Hp) (x y : V) (u v : Value) (Q : VK), Inv X pins σ H s → RelV x u → RelV y v → rd x y H Q → wpAny (model X.prog X.w) X.A (inplaceOp op u v) (EP X pins σ Q) X.xe s
noncomputable def sFldAug (K : PySem.W.Frag) (ta tv : TE) (rd : V → V → Hp → VK → Prop) (f : Str) : TS := fun D σ H => ta σ H fun x H1 => ∃ a C dx fs v, x = .ref a ∧ H1 a = some (.ins C dx fs) ∧ Cls K C ∧ NoAttr K C f ∧ fs.lookup f = some v ∧
  tv σ H1 fun y H2 => rd v y H2 fun z H3 => ∃ dx' fs', H3 a = some (.ins C dx' fs') ∧ fs'.length < 1000 ∧ D.nx σ (upd H3 a (.ins C dx' (putF f z fs')))
section
variable {X : Cx} {o e value : Expr} {f : Str} {pos pos' tpos : Pos} {ta tv : TE}
theorem pe_fld (he : PE X e ta) (hb : attributeBase e f X.env (eval e X.env) = eval e X.env) : PE X (.Attribute e f pos) (tFld X.K ta f) := by
  intro pins s σ H Q I h
  refine attr_of hb (thn (he pins s σ H _ I h) fun u s1 ⟨x, H1, I1, rx, a, C, dx, fs, v, ex, ea, c, n, l, q⟩ => ?_)
  subst ex
  obtain rfl : u = Value.ref a := rx
  exact getattr_ok I1 ea c n l fun u' s2 I2 ru => ⟨v, H1, I2, ru, q⟩
theorem ps_fld (ha : PE X o ta) (hv : PE X value tv) (hs : swapsWith value (some (.Attribute o f pos')) pos.line X.env = pure false) : PS X (.Assign [.Attribute o f pos'] value pos) (sFld X.K ta tv f) := by
  intro pins s σ H D I h
  refine plainObj_wpAny_Assign_Attribute (thn (hv pins s σ H _ I h) fun u s1 ⟨y, H1, I1, ry, q⟩ => thn (ha pins s1 σ H1 _ I1 q) fun ov s2 ⟨x, H2, I2, rx, a, C, dx, fs, ex, ea, c, n, l, q2⟩ => ?_) hs
  subst ex
  obtain rfl : ov = Value.ref a := rx
  exact setattr_ok I2 ea c n l ry fun s3 I3 => ⟨σ, _, I3, q2⟩
theorem ps_fldaug {op : Operator} {rd : V → V → Hp → VK → Prop} (ha : PE X o ta) (hv : PE X value tv) (hop : InOp X op rd) : PS X (.AugAssign (.Attribute o f tpos) op value pos) (sFldAug X.K ta tv rd f) := by
  intro pins s σ H D I h
  refine wpAny_AugAssign_AttributeAny (thn (ha pins s σ H _ I h) fun ov s1 ⟨x, H1, I1, rx, a, C, dx, fs, v, ex, ea, c, n, l, q⟩ => ?_)
  subst ex
  obtain rfl : ov = Value.ref a := rx
  refine getattr_ok I1 ea c n l fun u s2 I2 ru => thn (hv pins s2 σ H1 _ I2 q) fun w3 s3 ⟨y, H2, I3, ry, q3⟩ => thn (hop pins s3 σ H2 v y u w3 _ I3 ru ry q3) fun w4 s4 ⟨z, H3, I4, rz, dx', fs', ea', l', q4⟩ => ?_
  exact setattr_ok I4 ea' c n l' rz fun s5 I5 => ⟨σ, _, I5, q4⟩
noncomputable def rAdd : V → V → Hp → VK → Prop := fun x y H Q => ∃ i j, x = .int i ∧ y = .int j ∧ Q (.int (i + j)) H
noncomputable def rSub : V → V → Hp → VK → Prop := fun x y H Q => ∃ i j, x = .int i ∧ y = .int j ∧ Q (.int (i - j)) H
theorem in_add : InOp X .Add rAdd := by
  rintro pins s σ H x y u v Q I rx ry ⟨i, j, rfl, rfl, q⟩
  obtain ⟨t, rfl⟩ := (show ∃ t, u = Value.int i t from rx)
  obtain ⟨t', rfl⟩ := (show ∃ t', v = Value.int j t' from ry)
  exact PyProof.Rows.iadd_int ⟨.int (i + j), H, I.tok _, ⟨_, rfl⟩, q⟩
theorem in_sub : InOp X .Sub rSub := by
  rintro pins s σ H x y u v Q I rx ry ⟨i, j, rfl, rfl, q⟩
  obtain ⟨t, rfl⟩ := (show ∃ t, u = Value.int i t from rx)
  obtain ⟨t', rfl⟩ := (show ∃ t', v = Value.int j t' from ry)
  exact PyProof.Rows.isub_int ⟨.int (i - j), H, I.tok _, ⟨_, rfl⟩, q⟩
theorem methcall_of {pl : Sem Bool} {m : Str} {apos : Pos} {args : List Expr} {pins : List (Addr × Obj)} {s : Shared} {σ : St} {H : Hp} {Q : Value → Shared → Prop} {te : TE} (he : PE X e te) (I : Inv X pins σ H s)
    (h : te σ H fun x H1 => ∃ a C dx fs g, x = .ref a ∧ H1 a = some (.ins C dx fs) ∧ Cls X.K C ∧ Meth X.K C m g ∧ fs.lookup m = none ∧
      ∀ s1, Inv X pins σ H1 s1 → wpAny (model X.prog X.w) X.A (callWith pos (.ref g) [.ref a] (backTo pos (starEach args X.env)) (backToKw pos (keywordEach [] X.env))) Q X.xe s1)
    (ht : eval (.Call (.Attribute e m apos) args [] pos) X.env = (do
      let ov ← eval e X.env
      standAt apos.atName
      let (f, first) ← holding [ov] (getMethod ov m pl)
      callWith pos f first (backTo pos (starEach args X.env)) (backToKw pos (keywordEach [] X.env)))) :
    wpAny (model X.prog X.w) X.A (eval (.Call (.Attribute e m apos) args [] pos) X.env) Q X.xe s := by
  refine PySem.W.methodCall_KW (pl := pl) (thn (he pins s σ H _ I h) fun u s1 ⟨x, H1, I1, rx, a, C, dx, fs, g, ex, ea, c, k, l, q⟩ => ?_) ht
  subst ex
  obtain rfl : u = Value.ref a := rx
  exact getmeth_ok I1 ea c k l (q s1 I1)
end
section
variable {X : Cx} {pins : List (Addr × Obj)} {σ : St} {H : Hp} {s : Shared} {A : Around} {E : Value → Shared → Prop} {Q : Value → Shared → Prop} {c : Value} {b : Bool}
inductive TyOf (K : PySem.W.Frag) (H : Hp) : V → Value → Prop where
  | non : TyOf K H .non (.type "NoneType")
  | bl (x : Bool) : TyOf K H (.bl x) (.type "bool")
  | int (i : Int) : TyOf K H (.int i) (.type "int")
  | str (x : Str) : TyOf K H (.str x) (.type "str")
  | flt (x : UInt64) : TyOf K H (.flt x) (.type "float")
  | lst {a : Addr} {xs : List V} (e : H a = some (.lst xs)) : TyOf K H (.ref a) (.type "list")
  | frz {a : Addr} {o : Obj} {xs : List V} (e : H a = some (.frz o (.lst xs))) : TyOf K H (.ref a) (.type "list")
  | tup {a : Addr} {xs : List V} (e : H a = some (.tup xs)) : TyOf K H (.ref a) (.type "tuple")
  | dK {a : Addr} {kvs : List (Key × V)} (e : H a = some (.dK kvs)) : TyOf K H (.ref a) (.type "dict")
  | dT {a : Addr} {kvs : List (List Key × V)} (e : H a = some (.dT kvs)) : TyOf K H (.ref a) (.type "dict")
  | ins {a C dx : Addr} {fs : List (Str × V)} (e : H a = some (.ins C dx fs)) (cl : Cls K C) (ha : PySem.W.findIn K (.ref C) "__class__" = some (some (.builtin "object.__class__")))
      (hn : PySem.W.specialIn K (.builtin "object.__class__") "__get__" = some (some (.builtin "getset_descriptor.__get__"))) (htk : PySem.W.takesIn K (.builtin "object.__class__") = some true)
      (hm : PySem.W.mroIn K C (.type "object") = some true) : TyOf K H (.ref a) (.ref C)
theorem isinst_ok {x : V} {u t : Value} (I : Inv X pins σ H s) (rx : RelV x u) (ty : TyOf X.K H x t) (e : PySem.W.kitOne X.K t c = some b) (h : ∀ tk, Q (.bool b) { s with toks := tk }) :
    wpAny (model X.prog X.w) A (call (.builtin "isinstance") [u, c]) Q E s := by
  cases ty with
  | non => cases (show u = Value.none from rx); exact PySem.W.kia_one PySem.W.kitx_none I.kIn True.intro e (fun z => nomatch z) h
  | bl y => cases (show u = Value.bool y from rx); exact PySem.W.kia_one PySem.W.kitx_bool I.kIn True.intro e (fun z => nomatch z) h
  | int i => obtain ⟨t, q⟩ := (show ∃ t, u = Value.int i t from rx); cases q; exact PySem.W.kia_one PySem.W.kitx_int I.kIn True.intro e (fun z => nomatch z) h
  | str y => obtain ⟨t, q⟩ := (show ∃ t, u = Value.str y t from rx); cases q; exact PySem.W.kia_one PySem.W.kitx_str I.kIn True.intro e (fun z => nomatch z) h
  | flt y => obtain ⟨t, q⟩ := (show ∃ t, u = Value.float y t from rx); cases q; exact PySem.W.kia_one PySem.W.kitx_float I.kIn True.intro e (fun z => nomatch z) h
  | @lst a xs ea =>
    cases (show u = Value.ref a from rx)
    obtain ⟨_, _, n, _, h1⟩ := (show ObjOk X.prog X.w H s.heap a (.lst xs) from I.hok a _ ea)
    exact PySem.W.kia_one PySem.W.kitx_list I.kIn ⟨_, h1, rfl⟩ e (fun z => nomatch z) h
  | @frz a ob xs ea =>
    cases (show u = Value.ref a from rx)
    obtain ⟨_, _, _, n, _, h1⟩ := (show ObjOk X.prog X.w H s.heap a (.frz ob (.lst xs)) from I.hok a _ ea)
    exact PySem.W.kia_one PySem.W.kitx_list I.kIn ⟨_, h1, rfl⟩ e (fun z => nomatch z) h
  | @tup a xs ea =>
    cases (show u = Value.ref a from rx)
    obtain ⟨_, _, _, p⟩ := (show ObjOk X.prog X.w H s.heap a (.tup xs) from I.hok a _ ea)
    obtain ⟨o, h1, h2, _⟩ := p
    exact PySem.W.kia_one PySem.W.kitx_tuple I.kIn ⟨o, h1, h2⟩ e (fun z => nomatch z) h
  | @dK a kvs ea =>
    cases (show u = Value.ref a from rx)
    obtain ⟨_, _, vs, _, p⟩ := (show ObjOk X.prog X.w H s.heap a (.dK kvs) from I.hok a _ ea)
    obtain ⟨o, es, ep, h1, h2, _⟩ := p
    exact PySem.W.kia_one PySem.W.kitx_dict I.kIn ⟨o, h1, h2.1⟩ e (fun z => nomatch z) h
  | @dT a kvs ea =>
    cases (show u = Value.ref a from rx)
    obtain ⟨_, _, xs, _, o, es, ep, h1, h2, _⟩ := (show ObjOk X.prog X.w H s.heap a (.dT kvs) from I.hok a _ ea)
    exact PySem.W.kia_one PySem.W.kitx_dict I.kIn ⟨o, h1, h2.1⟩ e (fun z => nomatch z) h
  | @ins a C dx fs ea cl ha hn htk hm =>
    cases (show u = Value.ref a from rx)
    obtain ⟨mA, O, _⟩ := ins_get I.hok ea
    obtain ⟨od, J, _⟩ := O.look
    exact PySem.W.kia_one (PySem.W.kitx_own (cl.get _) cl.hd ha hn htk hm) I.kIn J e (fun z => nomatch z) h
end
end L2
namespace L2
open PySem PySem.Spec PyProof.Rows
structure Room (k : Nat) (A : Around) : Prop where
  hd : A.handled = none
  dp : A.depth + 3 * k + 5 < recursionLimit
  un : A.units + 16 * k + 200 < cLine
theorem Room.mono {j k : Nat} {A : Around} (r : Room k A) (h : j ≤ k) : Room j A := ⟨r.hd, by have := r.dp; omega, by have := r.un; omega⟩
theorem Room.deeper {k : Nat} {A : Around} (r : Room (k + 1) A) (env : Env) : Room k (A.deeper env) :=
  ⟨r.hd, by have := r.dp; show A.depth + 1 + 3 * k + 5 < _; omega, by have := r.un; show A.units + 3 + 16 * k + 200 < _; omega⟩
theorem make_depth {A : Around} {C : Addr} {us : List Value} {kw : List (Str × Value)} : (A.under (.builtin "type.__call__" ⟨.ref C :: us, kw⟩)).depth = A.depth + 1 := by
  first | rfl | simp [Around.under, Code.weight, Code.isCreation, Code.isGuard, Code.isCaller, Code.frames, Code.isFrame, guardIds]
theorem make_units {A : Around} {C : Addr} {us : List Value} {kw : List (Str × Value)} : (A.under (.builtin "type.__call__" ⟨.ref C :: us, kw⟩)).units = A.units + 1 := by
  first | rfl | simp [Around.under, Code.cUnits, Code.frames, Code.isFrame]
theorem Room.make {k : Nat} {A : Around} (r : Room (k + 1) A) (C : Addr) (us : List Value) (kw : List (Str × Value)) : Room k (A.under (.builtin "type.__call__" ⟨.ref C :: us, kw⟩)) :=
  ⟨r.hd, by have := r.dp; rw [make_depth]; omega, by have := r.un; rw [make_units]; omega⟩
theorem Room.depth {k : Nat} {A : Around} (r : Room k A) : A.depth < recursionLimit := by have := r.dp; omega
theorem Room.units {k : Nat} {A : Around} (r : Room k A) : A.units + 64 < cLine := by have := r.un; omega
noncomputable def tNil : TA := fun _ H Q => Q [] H
noncomputable def tCons (ta : TE) (tr : TA) : TA := fun σ H Q => ta σ H fun x H1 => tr σ H1 fun xs H2 => Q (x :: xs) H2
section
variable {X : Cx} {e : Expr} {es : List Expr} {te : TE} {t : TA} {pos : Pos}
theorem pa_nil : PA X [] tNil := fun _ _ _ _ H Q I h => Calls.spliced_nil ⟨[], H, I, .nil, h⟩
theorem pa_cons (ha : PE X e te) (hr : PA X es t) (hs : starEach (e :: es) X.env = (false, eval e X.env) :: starEach es X.env := by rfl) : PA X (e :: es) (tCons te t) := by
  intro pos pins s σ H Q I h
  rw [hs]
  show wpAny _ _ (spliced ((false, eval e X.env) :: backTo pos (starEach es X.env))) _ _ s
  refine Calls.spliced_cons (thn (ha pins s σ H _ I h) fun u s1 ⟨x, H1, I1, r1, q1⟩ => ?_)
  exact thn (hr pos pins s1 σ H1 _ I1 q1) fun us s2 ⟨xs, H2, I2, r2, q2⟩ => ⟨x :: xs, H2, I2, .cons r1 r2, q2⟩
noncomputable def tTup (t : TA) : TE := fun σ H Q => t σ H fun xs H1 => xs.length ≤ sizeLine ∧ ∀ p, H1 p = none → Q (.ref p) (upd H1 p (.tup xs))
noncomputable def tLst (t : TA) : TE := fun σ H Q => t σ H fun xs H1 => xs.length ≤ sizeLine ∧ ∀ p, H1 p = none → Q (.ref p) (upd H1 p (.lst xs))
theorem pe_tup {x1} (h : PA X es t) : PE X (.Tuple es x1 pos) (tTup t) := by
  intro pins s σ H Q I hq
  refine wpAny_Tuple_spliced (thn (h pos pins s σ H _ I hq) fun us s1 ⟨xs, H1, I1, r, z, q⟩ => ⟨by rw [← r.length]; exact z, ?_⟩)
  have hf : H1 s1.heap.objs.size = none := I1.hok.fresh (Nat.le_refl _)
  refine ⟨.ref s1.heap.objs.size, upd H1 s1.heap.objs.size (.tup xs), I1.laid (t' := s1.toks) (fun b u e => Heap.get?_push_of_some _ e) (Nat.le_refl _) ?_, rfl, q _ hf⟩
  exact ⟨z, us, r, ⟨_, Heap.get?_push_size _ rfl, rfl, _, rfl⟩⟩
theorem pe_lst (h : PA X es t) : PE X (.List es pos) (tLst t) := by
  intro pins s σ H Q I hq
  refine wpAny_List_spliced (thn (h pos pins s σ H _ I hq) fun us s1 ⟨xs, H1, I1, r, z, q⟩ => ⟨by rw [← r.length]; exact z, ?_⟩)
  have hf : H1 s1.heap.objs.size = none := I1.hok.fresh (Nat.le_refl _)
  refine ⟨.ref s1.heap.objs.size, upd H1 s1.heap.objs.size (.lst xs), I1.laid (t' := s1.toks) (fun b u e => Heap.get?_push_of_some _ e) (Nat.le_refl _) ?_, rfl, q _ hf⟩
  exact ⟨z, us, 0, r, Heap.get?_push_size _ rfl⟩
end
noncomputable abbrev Sp := List V → Hp → VK → XK → Prop
noncomputable abbrev CXT := List Env → Hp → Shared → XK → Value → Shared → Prop
structure Env0 (P : Program) (w : World) (K : PySem.W.Frag) (mg : Str → Option Value) (base : Heap) (A : Around) (outer : List Env) (s : Shared) (H : Hp) : Prop where
  frames : A.frames = some outer
  mod : Mod K mg base
  bs : ∀ b o, base.get? b = some o → s.heap.get? b = some o ∧ H b = none
  bsz : base.objs.size ≤ s.heap.objs.size
  funs : s.heap.FunFrames base outer
  frf : ∀ b ∈ frs outer, H b = none
  hok : HOk P w H s.heap
  bare : AllBare s.gens
noncomputable def CE (outer : List Env) (P : Program) (w : World) (H : Hp) (s : Shared) (Q : VK) (u : Value) (s' : Shared) : Prop :=
  ∃ v H', s'.os = s.os ∧ AllBare s'.gens ∧ Un (frs outer) [] H H' s.heap s'.heap ∧ HOk P w H' s'.heap ∧ RelV v u ∧ Q v H'
noncomputable def CR (CX : CXT) (outer : List Env) (P : Program) (w : World) (H : Hp) (s : Shared) (Q : VK) (E : XK) (r : Result) (s' : Shared) : Prop :=
  match r with
  | .ok (.ret u) => CE outer P w H s Q u s'
  | .ok _ => False
  | .error e => CX outer H s E e s'
structure FnOk (P : Program) (w : World) (K : PySem.W.Frag) (mg : Str → Option Value) (base : Heap) (CX : CXT) (k : Nat) (f : Addr) (fd : FuncData) (ps : List Str) (sp : Sp) : Prop where
  len : ∀ vs H Q E, sp vs H Q E → vs.length = ps.length
  run : ∀ (A : Around) (outer : List Env) (s : Shared) (H : Hp) (args : Args) (us : List Value) (vs : List V) (Q : VK) (E : XK), Room k A → Env0 P w K mg base A outer s H → BindsTo s fd args (ps.zip us) → Vals vs us → sp vs H Q E →
    codeAny (model P w) A (.call (.ref f) args) (CR CX outer P w H s Q E) s
theorem Env0.make {P : Program} {w : World} {K : PySem.W.Frag} {mg : Str → Option Value} {base : Heap} {A : Around} {outer : List Env} {s : Shared} {H : Hp} (e : Env0 P w K mg base A outer s H) (C : Addr) (us : List Value) (kw : List (Str × Value)) :
    Env0 P w K mg base (A.under (.builtin "type.__call__" ⟨.ref C :: us, kw⟩)) outer s H := ⟨by first | exact e.frames | (simpa [Around.under, Code.envs, Code.isFrame, pushEnvs] using e.frames), e.mod, e.bs, e.bsz, e.funs, e.frf, e.hok, e.bare⟩
section
variable {X : Cx} {pins : List (Addr × Obj)} {σ : St} {H : Hp} {s s' : Shared}
theorem Inv.env0 (I : Inv X pins σ H s) : Env0 X.prog X.w X.K X.mg X.base X.A X.stack s H :=
  ⟨I.ok.frames, I.ok.mod, I.bs, Nat.le_trans I.ok.bsz I.sz, I.stack, I.stkFree, I.hok, I.bare⟩
theorem Inv.after {Q : VK} {u : Value} (I : Inv X pins σ H s) (h : CE X.stack X.prog X.w H s Q u s') : EP X pins σ Q u s' := by
  obtain ⟨v, H', os, bare, un, hok, r, q⟩ := h
  obtain ⟨hh, g, d, t, os'⟩ := s'
  obtain rfl : os' = s.os := os
  exact ⟨v, H', I.call (h' := hh) (g' := g) (d' := d) (t' := t) (ch := []) un hok bare (fun b z => absurd z (by simp)), r, q⟩
end
noncomputable def tCall (sp : Sp) (dvs : List V) (E : XK) (t : TA) : TE := fun σ H Q => t σ H fun vs H1 => sp (vs ++ dvs) H1 Q E
noncomputable def tMeth (C : Addr) (m : Str) (sp : Sp) (dvs : List V) (E : XK) (ta : TE) (t : TA) : TE := fun σ H Q => ta σ H fun x H1 => ∃ a dx fs, x = .ref a ∧ H1 a = some (.ins C dx fs) ∧ fs.lookup m = none ∧
  t σ H1 fun vs H2 => sp (x :: (vs ++ dvs)) H2 Q E
noncomputable def tMake (C : Addr) (sp : Sp) (dvs : List V) (E : XK) (t : TA) : TE := fun σ H Q => t σ H fun vs H1 => ∀ x dx, H1 x = none → H1 dx = none → dx ≠ x →
  sp (.ref x :: (vs ++ dvs)) (upd (upd H1 dx (.own x)) x (.ins C dx [])) (fun v H2 => v = .non ∧ Q (.ref x) H2) E
noncomputable def Binds (K : PySem.W.Frag) (fd : FuncData) (ps : List Str) (ds : List Value) : Prop :=
  ∀ (s : Shared) (us : List Value), K.In s.heap → (us ++ ds).length = ps.length → BindsTo s fd ⟨us, []⟩ (ps.zip (us ++ ds))
theorem Binds.all {K : PySem.W.Frag} {fd : FuncData} {ps : List Str} (h : ∀ us : List Value, us.length = ps.length → bindArgs fd ⟨us, []⟩ = pure (ps.zip us)) : Binds K fd ps [] := fun s us _ hl => by
  rw [List.append_nil] at hl ⊢
  exact .of_eq (h us hl)
noncomputable def Passes (CX : CXT) (X : Cx) (E : XK) : Prop := ∀ (pins : List (Addr × Obj)) (σ : St) (H : Hp) (s : Shared) (e : Value) (s' : Shared), Inv X pins σ H s → CX X.stack H s E e s' → X.xe e s'
section
variable {X : Cx} {CX : CXT} {k : Nat} {f C : Addr} {fd : FuncData} {ps : List Str} {sp : Sp} {dvs : List V} {ds : List Value} {E : XK} {x m : Str} {p pos apos : Pos} {e o : Expr} {es : List Expr} {ta : TE} {t : TA}
theorem run_fn {pins : List (Addr × Obj)} {σ : St} {H : Hp} {s : Shared} {Q : VK} {us : List Value} {vs : List V} (F : FnOk X.prog X.w X.K X.mg X.base CX k f fd ps sp) (hr : Room k X.A) (hb : Binds X.K fd ps ds) (hd : Vals dvs ds) (hx : Passes CX X E)
    (I : Inv X pins σ H s) (r : Vals vs us) (h : sp (vs ++ dvs) H Q E) : wpAny (model X.prog X.w) X.A (call (.ref f) us) (EP X pins σ Q) X.xe s := by
  have r2 : Vals (vs ++ dvs) (us ++ ds) := r.append hd
  have hl : (us ++ ds).length = ps.length := by rw [← r2.length]; exact F.len _ _ _ _ h
  refine wpAny_call (codeAny_mono (F.run X.A X.stack s H ⟨us, []⟩ (us ++ ds) (vs ++ dvs) Q E hr I.env0 (hb s us I.kIn hl) r2 h) fun r s' hq => ?_)
  cases r with
  | error e => exact hx pins σ H s e s' I hq
  | ok fl =>
    cases fl with
    | ret u => exact I.after hq
    | next => exact False.elim hq
    | brk => exact False.elim hq
    | cont => exact False.elim hq
theorem pe_call (F : FnOk X.prog X.w X.K X.mg X.base CX k f fd ps sp) (hr : Room k X.A) (hg : Gl X x) (hm : X.mg x = some (.ref f)) (hk : PySem.W.keepIn X.K (.ref f) = true) (hb : Binds X.K fd ps ds) (hd : Vals dvs ds) (hx : Passes CX X E)
    (ha : PA X (e :: es) t) (hdb : (x == ("__debug__" : Str)) = false := by decide) (he : starEach (e :: es) X.env = (false, eval e X.env) :: starEach es X.env := by rfl) (hpl : (backTo pos (starEach es X.env)).any (·.1) = false := by rfl) :
    PE X (.Call (.Name x p) (e :: es) [] pos) (tCall sp dvs E t) := by
  intro pins s σ H Q I h
  refine wpAny_Call_Name_kw (ld_glob I hg hm ?_ hdb)
  refine PySem.W.callWith_K (h₀ := X.base) I.ok.mod.kin hk (thn (ha pos pins s σ H _ I h) fun us s1 ⟨vs, H1, I1, r, q⟩ => ⟨I1.kIn, ?_⟩) he hpl
  exact run_fn F hr hb hd hx I1 r q
theorem pe_meth {pl : Sem Bool} (he : PE X o ta) (c : Cls X.K C) (hm : Meth X.K C m f) (F : FnOk X.prog X.w X.K X.mg X.base CX k f fd ps sp) (hr : Room k X.A) (hb : Binds X.K fd ps ds) (hd : Vals dvs ds) (hx : Passes CX X E) (ha : PA X (e :: es) t)
    (hst : starEach (e :: es) X.env = (false, eval e X.env) :: starEach es X.env := by rfl) (hpl : (backTo pos (starEach es X.env)).any (·.1) = false := by rfl)
    (ht : eval (.Call (.Attribute o m apos) (e :: es) [] pos) X.env = (do
      let ov ← eval o X.env
      standAt apos.atName
      let (f, first) ← holding [ov] (getMethod ov m pl)
      callWith pos f first (backTo pos (starEach (e :: es) X.env)) (backToKw pos (keywordEach [] X.env))) := by rfl) :
    PE X (.Call (.Attribute o m apos) (e :: es) [] pos) (tMeth C m sp dvs E ta t) := by
  intro pins s σ H Q I h
  refine PySem.W.methodCall_KW (pl := pl) (thn (he pins s σ H _ I h) fun u s1 ⟨x, H1, I1, rx, a, dx, fs, ex, ea, l, q⟩ => ?_) ht
  subst ex
  obtain rfl : u = Value.ref a := rx
  refine getmeth_ok I1 ea c hm l ?_
  refine PySem.W.callWith_K (first := [.ref a]) (h₀ := X.base) I.ok.mod.kin hm.kp (thn (ha pos pins s1 σ H1 _ I1 q) fun us s2 ⟨vs, H2, I2, r, q2⟩ => ⟨I2.kIn, ?_⟩) hst hpl
  exact run_fn (us := .ref a :: us) (vs := .ref a :: vs) F hr hb hd hx I2 (.cons rfl r) q2
theorem pe_meth0 {pl : Sem Bool} (he : PE X o ta) (c : Cls X.K C) (hm : Meth X.K C m f) (F : FnOk X.prog X.w X.K X.mg X.base CX k f fd ps sp) (hr : Room k X.A) (hb : Binds X.K fd ps ds) (hd : Vals dvs ds) (hx : Passes CX X E)
    (ht : eval (.Call (.Attribute o m apos) [] [] pos) X.env = (do
      let ov ← eval o X.env
      standAt apos.atName
      let (f, first) ← holding [ov] (getMethod ov m pl)
      callWith pos f first (backTo pos (starEach [] X.env)) (backToKw pos (keywordEach [] X.env))) := by rfl) :
    PE X (.Call (.Attribute o m apos) [] [] pos) (tMeth C m sp dvs E ta tNil) := by
  intro pins s σ H Q I h
  refine PySem.W.methodCall_KW (pl := pl) (thn (he pins s σ H _ I h) fun u s1 ⟨x, H1, I1, rx, a, dx, fs, ex, ea, l, q⟩ => ?_) ht
  subst ex
  obtain rfl : u = Value.ref a := rx
  refine getmeth_ok I1 ea c hm l ?_
  exact PySem.W.callWith_K0 (first := [.ref a]) I1.kIn hm.kp (run_fn (us := [.ref a]) (vs := [.ref a]) F hr hb hd hx I1 (.cons rfl .nil) q)
structure Mk (K : PySem.W.Frag) (C f : Addr) : Prop where
  makes : PySem.W.makesIn K C = true
  init : PySem.W.findIn K (.ref C) "__init__" = some (some (.ref f))
  fn : PySem.W.isFn K (.ref f) = true
  kp : PySem.W.keepIn K (.ref C) = true
theorem run_make {pins : List (Addr × Obj)} {σ : St} {H : Hp} {s : Shared} {Q : VK} {us : List Value} {vs : List V} (M : Mk X.K C f) (F : FnOk X.prog X.w X.K X.mg X.base CX k f fd ps sp) (hr : Room (k + 1) X.A) (hb : Binds X.K fd ps ds) (hd : Vals dvs ds)
    (hx : Passes CX X E) (I : Inv X pins σ H s) (r : Vals vs us)
    (h : ∀ x dx, H x = none → H dx = none → dx ≠ x → sp (.ref x :: (vs ++ dvs)) (upd (upd H dx (.own x)) x (.ins C dx [])) (fun v H2 => v = .non ∧ Q (.ref x) H2) E) :
    wpAny (model X.prog X.w) X.A (call (.ref C) us) (EP X pins σ Q) X.xe s := by
  have hq := h (s.heap.objs.size + 1) s.heap.objs.size (I.hok.fresh (Nat.le_succ _)) (I.hok.fresh (Nat.le_refl _)) (Nat.ne_of_lt (Nat.lt_succ_self _))
  have I2 := Inv.made (C := C) I
  have r2 : Vals (V.ref (s.heap.objs.size + 1) :: (vs ++ dvs)) (Value.ref (s.heap.objs.size + 1) :: (us ++ ds)) := .cons rfl (r.append hd)
  have hl : (Value.ref (s.heap.objs.size + 1) :: us ++ ds).length = ps.length := by
    have e := r2.length
    rw [F.len _ _ _ _ hq] at e
    exact e.symm
  refine wpAny_call (make_map (f := f) I.kIn M.makes M.init (beq_iff_eq.mp M.fn) (codeAny_mono (F.run _ X.stack _ _ ⟨Value.ref (s.heap.objs.size + 1) :: us, []⟩ (Value.ref (s.heap.objs.size + 1) :: (us ++ ds)) _ _ E (hr.make C us [])
    (I2.env0.make C us []) (hb _ (Value.ref (s.heap.objs.size + 1) :: us) I2.kIn hl) r2 hq) fun r s' hq' => ?_))
  cases r with
  | error e => exact hx pins σ _ _ e s' I2 hq'
  | ok fl =>
    cases fl with
    | ret u =>
      obtain ⟨v, H', I3, rv, ev, q3⟩ := I2.after hq'
      subst ev
      exact ⟨rv, ⟨V.ref (s.heap.objs.size + 1), H', I3, rfl, q3⟩⟩
    | next => exact False.elim hq'
    | brk => exact False.elim hq'
    | cont => exact False.elim hq'
theorem pe_make (M : Mk X.K C f) (F : FnOk X.prog X.w X.K X.mg X.base CX k f fd ps sp) (hr : Room (k + 1) X.A) (hg : Gl X x) (hm : X.mg x = some (.ref C)) (hb : Binds X.K fd ps ds) (hd : Vals dvs ds) (hx : Passes CX X E)
    (ha : PA X (e :: es) t) (hdb : (x == ("__debug__" : Str)) = false := by decide) (he : starEach (e :: es) X.env = (false, eval e X.env) :: starEach es X.env := by rfl) (hpl : (backTo pos (starEach es X.env)).any (·.1) = false := by rfl) :
    PE X (.Call (.Name x p) (e :: es) [] pos) (tMake C sp dvs E t) := by
  intro pins s σ H Q I h
  refine wpAny_Call_Name_kw (ld_glob I hg hm ?_ hdb)
  refine PySem.W.callWith_K (h₀ := X.base) I.ok.mod.kin M.kp (thn (ha pos pins s σ H _ I h) fun us s1 ⟨vs, H1, I1, r, q⟩ => ⟨I1.kIn, ?_⟩) he hpl
  exact run_make M F hr hb hd hx I1 r q
end
section
variable {X : Cx} {CX : CXT} {k : Nat} {f C : Addr} {fd : FuncData} {ps ks : List Str} {sp : Sp} {E : XK} {x m : Str} {p pos apos kpos : Pos} {e o : Expr} {es : List Expr} {kws : List Keyword} {te ta : TE} {t tk : TA} {nm : Option Str}
structure KBinds (K : PySem.W.Frag) (fd : FuncData) (ps ks : List Str) (g : List Value → List Value → List Value) (gV : List V → List V → List V) : Prop where
  to : ∀ (s : Shared) (us ws : List Value), K.In s.heap → (g us ws).length = ps.length → BindsTo s fd ⟨us, ks.zip ws⟩ (ps.zip (g us ws))
  rel : ∀ {vs : List V} {us : List Value} {zs : List V} {ws : List Value}, Vals vs us → Vals zs ws → Vals (gV vs zs) (g us ws)
variable {g : List Value → List Value → List Value} {gV : List V → List V → List V}
end
structure FnScope (N P : List Str) (sc : Scope) : Prop where
  kind : sc.kind = .function
  co : sc.isCoroutine = false
  gen : sc.isGenerator = false
  nd : N.Nodup
  pre : N.take P.length = P
  par : ∀ x ∈ P, sc.names.lookup x = some .local ∨ sc.names.lookup x = some .cell
  nofree : ∀ y ∈ sc.names, y.2 ≠ .free
theorem bindL_out {kindOf : Str → Option NameKind} {x : Str} : ∀ {binds : List (Str × Value)} {m : Str → Option Value}, (∀ v, (x, v) ∉ binds) → bindL kindOf binds m x = m x
  | [], _, _ => rfl
  | (n, v) :: r, m, h => by
    unfold bindL
    rw [bindL_out fun w hw => h w (List.mem_cons_of_mem _ hw)]
    split
    · have : x ≠ n := by rintro rfl; exact h v List.mem_cons_self
      simp [this]
    · rfl
theorem bindC_out {kindOf : Str → Option NameKind} {x : Str} : ∀ {binds : List (Str × Value)} {m : Str → Option Value}, (∀ v, (x, v) ∉ binds) → bindC kindOf binds m x = m x
  | [], _, _ => rfl
  | (n, v) :: r, m, h => by
    unfold bindC
    rw [bindC_out fun w hw => h w (List.mem_cons_of_mem _ hw)]
    split
    · rfl
    · have : x ≠ n := by rintro rfl; exact h v List.mem_cons_self
      simp [this]
theorem bindL_get {kindOf : Str → Option NameKind} {x : Str} {v : Value} : ∀ {P : List Str} {vs : List Value} {i : Nat} {m : Str → Option Value}, P.Nodup → P[i]? = some x → vs[i]? = some v → kindOf x = some .local →
    bindL kindOf (P.zip vs) m x = some v
  | [], _, _, _, _, h, _, _ => by simp at h
  | _ :: _, [], _, _, _, _, h, _ => by simp at h
  | p :: P, w :: vs, 0, m, nd, h1, h2, hk => by
    simp at h1 h2; subst h1; subst h2
    show bindL kindOf ((p, w) :: P.zip vs) m p = _
    unfold bindL
    rw [bindL_out fun v hv => (List.nodup_cons.mp nd).1 (List.of_mem_zip hv).1, if_pos hk]
    simp
  | p :: P, w :: vs, i + 1, m, nd, h1, h2, hk => by
    show bindL kindOf ((p, w) :: P.zip vs) m x = _
    unfold bindL
    exact bindL_get (i := i) (List.nodup_cons.mp nd).2 (by simpa using h1) (by simpa using h2) hk
theorem bindC_get {kindOf : Str → Option NameKind} {x : Str} {v : Value} : ∀ {P : List Str} {vs : List Value} {i : Nat} {m : Str → Option Value}, P.Nodup → P[i]? = some x → vs[i]? = some v → kindOf x ≠ some .local →
    bindC kindOf (P.zip vs) m x = some v
  | [], _, _, _, _, h, _, _ => by simp at h
  | _ :: _, [], _, _, _, _, h, _ => by simp at h
  | p :: P, w :: vs, 0, m, nd, h1, h2, hk => by
    simp at h1 h2; subst h1; subst h2
    show bindC kindOf ((p, w) :: P.zip vs) m p = _
    unfold bindC
    rw [bindC_out fun v hv => (List.nodup_cons.mp nd).1 (List.of_mem_zip hv).1, if_neg hk]
    simp
  | p :: P, w :: vs, i + 1, m, nd, h1, h2, hk => by
    show bindC kindOf ((p, w) :: P.zip vs) m x = _
    unfold bindC
    exact bindC_get (i := i) (List.nodup_cons.mp nd).2 (by simpa using h1) (by simpa using h2) hk
noncomputable def start (N : List Str) (vs : List V) : St := vs.map some ++ List.replicate (N.length - vs.length) none
noncomputable def cxOf (CX : CXT) (P : Program) (w : World) (K : PySem.W.Frag) (mg : Str → Option Value) (base : Heap) (N : List Str) (qual : Str) (scope : Scope) (f : Addr) (cd : Value) (A : Around) (outer : List Env) (s : Shared) (H : Hp) (E : XK) : Cx where
  prog := P
  w := w
  K := K
  mg := mg
  base := base
  A := A.deeper (envOfC qual scope s.heap.objs.size f cd)
  N := N
  s₀ := s
  H₀ := H
  env := envOfC qual scope s.heap.objs.size f cd
  outer := outer
  stack := envOfC qual scope s.heap.objs.size f cd :: outer
  ex := []
  calm := true
  fn := fun _ => true
  pn := []
  xe := fun e s' => wpAny (model P w) (A.deeper (envOfC qual scope s.heap.objs.size f cd)) (leaving (envOfC qual scope s.heap.objs.size f cd) e) (fun _ s'' => CX outer H s E e s'') (fun e' s'' => CX outer H s E e' s'') s'
theorem cell_has {sc : Scope} {n : Nat} {x : Str} (h : sc.names.lookup x = some .cell) : ∃ c, (cellsFrom n sc.names []).lookup x = some c := by
  have q := PySem.W.cellsFrom_some sc.names n [] (.inl h)
  exact Option.isSome_iff_exists.mp q
theorem inv_start {CX : CXT} {P : Program} {w : World} {K : PySem.W.Frag} {mg : Str → Option Value} {base : Heap} {N ps : List Str} {qual : Str} {scope : Scope} {f : Addr} {cd : Value} {A : Around} {outer : List Env} {s s1 : Shared} {H : Hp} {E : XK} {us : List Value} {vs : List V}
    (S : FnScope N ps scope) (hd : A.handled = none) (e0 : Env0 P w K mg base A outer s H) (hl : vs.length = ps.length) (r : Vals vs us)
    (x : InCallC s s.heap.objs.size (bindL (envOfC qual scope s.heap.objs.size f cd).kindOf (ps.zip us) fun _ => none) (cellsFrom (s.heap.objs.size + 1) scope.names []) (bindC (envOfC qual scope s.heap.objs.size f cd).kindOf (ps.zip us) fun _ => none) s1) :
    Inv (cxOf CX P w K mg base N qual scope f cd A outer s H E) [] (start N vs) H s1 := by
  have hpl : ps.length ≤ N.length := by have := congrArg List.length S.pre; rw [List.length_take] at this; omega
  obtain ⟨h1, tk, rfl, hk⟩ := x.done
  have noA : ∀ b : Addr, b ∉ (cxOf CX P w K mg base N qual scope f cd A outer s H E).ex := fun b z => absurd (show b ∈ ([] : List Addr) from z) (by simp)
  refine ⟨⟨e0.mod, S.kind, rfl, rfl, Nat.le_refl _, fun y z c h1 h2 => ?_, fun y hy => ?_, fun y c _ h => ?_, fun _ => hd, Around.frames_deeper e0.frames, .inr ⟨rfl, rfl⟩, fun b z => absurd z (noA b), e0.bs, e0.bsz, fun b _ _ => noA b, fun b z => absurd z (noA b), e0.funs, e0.frf⟩,
    rfl, e0.bare, Un.kept hk, ⟨_, x.toInCall.ns, fun i y v h1 h2 h3 => ?_⟩, fun y c h => ⟨_, x.cell y c h⟩, e0.hok.fresh (Nat.le_refl _), fun y c h => ?_, fun p hp => absurd (show p ∈ ([] : List (Addr × Obj)) from hp) (by simp), e0.hok.kept hk, ?_⟩
  · exact name_of_addr x.apart (PySem.mem_of_lookup h1) (PySem.mem_of_lookup h2)
  · have hy : scope.names.lookup y = some .cell ∨ scope.names.lookup y = some .free := hy
    rcases hy with hy | hy
    · exact cell_has hy
    · exact absurd rfl (S.nofree _ (PySem.mem_of_lookup hy))
  · exact Nat.le_of_lt (x.above y c (PySem.mem_of_lookup h))
  · have hi : i < vs.length := by
      unfold start at h2
      by_cases hi : i < vs.length
      · exact hi
      · rw [List.getElem?_append_right (by simpa using hi)] at h2
        rw [List.getElem?_replicate] at h2
        split at h2 <;> cases h2
    have ha : vs[i]? = some v := by
      unfold start at h2
      rw [List.getElem?_append_left (by simpa using hi), List.getElem?_map] at h2
      cases e : vs[i]? with
      | none => rw [e] at h2; cases h2
      | some a => rw [e] at h2; cases h2; rfl
    obtain ⟨u, hu, rv⟩ := r.get ha
    have hp : ps[i]? = some y := by
      rw [← S.pre, List.getElem?_take_of_lt (by omega)]; exact h1
    have ndP : ps.Nodup := by rw [← S.pre]; exact S.nd.sublist (List.take_sublist _ _)
    refine ⟨u, rv, ?_⟩
    rcases S.par y (List.mem_of_getElem? hp) with k | k
    · exact .inl ⟨k, bindL_get ndP hp hu k⟩
    · obtain ⟨c, e⟩ := cell_has (n := s.heap.objs.size + 1) k
      refine .inr ⟨.inl k, c, e, ?_⟩
      have q := x.cell y c e
      rw [bindC_get ndP hp hu (by show scope.names.lookup y ≠ _; rw [k]; decide)] at q
      exact q
  · exact e0.hok.fresh (Nat.le_of_lt (x.above y c (PySem.mem_of_lookup h)))
  · unfold start
    show _ = N.length
    rw [List.length_append, List.length_map, List.length_replicate]
    omega
theorem fn_of {CX : CXT} {P : Program} {w : World} {K : PySem.W.Frag} {mg : Str → Option Value} {base : Heap} {k : Nat} {f : Addr} {name qual : Str} {params : Arguments} {body : List Stmt} {scope : Scope} {dV kV doc pm cdv ct oc : Value} {an od : Option Addr}
    {osl : Array (Option Value)} {N ps : List Str} {sp : Sp} (lk : K.lookup f = some ⟨oc, od, .func (PySem.W.fnOf name qual params body scope dV kV doc pm an cdv ct), osl⟩) (hcd : PySem.W.codeIn K cdv qual = true) (S : FnScope N ps scope)
    (len : ∀ vs H Q E, sp vs H Q E → vs.length = ps.length)
    (hbody : ∀ (A : Around) (outer : List Env) (s : Shared) (H : Hp) (vs : List V) (Q : VK) (E : XK), Room k (A.deeper (envOfC qual scope s.heap.objs.size f cdv)) → sp vs H Q E →
      ∃ t, PSs (cxOf CX P w K mg base N qual scope f cdv A outer s H E) body t ∧ t { nx := fun _ H' => Q .non H', rt := Q } (start N vs) H) :
    FnOk P w K mg base CX (k + 1) f (PySem.W.fnOf name qual params body scope dV kV doc pm an cdv ct) ps sp := by
  refine ⟨len, fun A outer s H args us vs Q E hr e0 hb r hsp => ?_⟩
  have hl := len _ _ _ _ hsp
  have KX : K.In s.heap := e0.mod.kin.keeps fun b o e => (e0.bs b o e).1
  have lim : s.heap.NoLimit := e0.mod.nolimit.keeps fun b o e => (e0.bs b o e).1
  have hkind : ∀ y ∈ ps.zip us, scope.names.lookup y.1 = some .local ∨ (scope.names.lookup y.1 = some .cell ∧ ((cellsFrom (s.heap.objs.size + 1) scope.names []).lookup y.1).isSome = true) := fun ⟨n, v⟩ hy => by
    rcases S.par n (List.of_mem_zip hy).1 with q | q
    · exact .inl q
    · exact .inr ⟨q, PySem.W.cellsFrom_some _ _ _ (.inl q)⟩
  refine codeAny_call_function hr.depth (KX _ _ lk) rfl S.co S.gen rfl (PySem.W.codeRec_of KX hcd) (hb _ _ _ _ ?_)
  refine wpAny_newFunctionEnv_cells S.kind hkind fun env he s1 x => ?_
  subst he
  refine ⟨lim.keeps x.toInCall.keep, codeAny_func ?_⟩
  obtain ⟨t, ht, hq⟩ := hbody A outer s H vs Q E (hr.deeper _) hsp
  have I : Inv (cxOf CX P w K mg base N qual scope f cdv A outer s H E) [] (start N vs) H s1 := inv_start S hr.hd e0 hl r x
  refine wpAny_mono (ht [] s1 (start N vs) H _ I hq) (fun fl s' hs => ?_) fun e s' hs => hs
  have fin : ∀ {σ' : St} {H' : Hp} {v : V} {u : Value}, Inv (cxOf CX P w K mg base N qual scope f cdv A outer s H E) [] σ' H' s' → RelV v u → Q v H' → CE outer P w H s Q u s' :=
    fun {σ' H' v u} J rv q => ⟨v, H', J.os, J.bare, J.base, J.hok, rv, q⟩
  cases fl with
  | ret u =>
    obtain ⟨v, σ', H', J, rv, q⟩ := hs
    exact fin J rv q
  | next =>
    obtain ⟨σ', H', J, q⟩ := hs
    exact fin (v := V.non) (u := Value.none) J rfl q
  | brk =>
    obtain ⟨_, _, _, q⟩ := hs
    exact False.elim q
  | cont =>
    obtain ⟨_, _, _, q⟩ := hs
    exact False.elim q
end L2
namespace L2
open PySem PySem.Spec PyProof.Rows
section
variable {X : Cx} {x : Str} {p pos : Pos} {e : Expr} {es : List Expr} {t : TA} {id T : String} {r : List V → Hp → VK → Prop}
noncomputable def tCB (r : List V → Hp → VK → Prop) (t : TA) : TE := fun σ H Q => t σ H fun vs H1 => r vs H1 Q
theorem pe_callB (hc : CallR X (.builtin id) r) (hg : Gl X x) (hm : X.mg x = none) (hv : bootBuiltins x = some (.builtin id)) (ha : PA X (e :: es) t) (hn : x ≠ "__name__" := by decide) (hdb : (x == ("__debug__" : Str)) = false := by decide)
    (he : starEach (e :: es) X.env = (false, eval e X.env) :: starEach es X.env := by rfl) (hpl : (backTo pos (starEach es X.env)).any (·.1) = false := by rfl) : PE X (.Call (.Name x p) (e :: es) [] pos) (tCB r t) := by
  intro pins s σ H Q I h
  refine wpAny_Call_Name_kw (ld_blt I hg hm hv ?_ hn hdb)
  exact PyProof.Rows.callWith_builtin1 (thn (ha pos pins s σ H _ I h) fun us s1 ⟨vs, H1, I1, r1, q1⟩ => hc pins s1 σ H1 vs us Q I1 r1 q1) he hpl
theorem pe_callTy (hc : CallR X (.type T) r) (hg : Gl X x) (hm : X.mg x = none) (hv : bootBuiltins x = some (.type T)) (ha : PA X (e :: es) t) (hn : x ≠ "__name__" := by decide) (hdb : (x == ("__debug__" : Str)) = false := by decide)
    (he : starEach (e :: es) X.env = (false, eval e X.env) :: starEach es X.env := by rfl) (hpl : (backTo pos (starEach es X.env)).any (·.1) = false := by rfl) : PE X (.Call (.Name x p) (e :: es) [] pos) (tCB r t) := by
  intro pins s σ H Q I h
  refine wpAny_Call_Name_kw (ld_blt I hg hm hv ?_ hn hdb)
  exact PyProof.Rows.callWith_type1 (thn (ha pos pins s σ H _ I h) fun us s1 ⟨vs, H1, I1, r1, q1⟩ => hc pins s1 σ H1 vs us Q I1 r1 q1) he hpl
end
end L2
namespace HT
open PySem PyProof.Rows
section
open PySem.SeqAt
open PySem.AutoSeq1 (wpAny_loadPart')
open PySem.MeetsSeq PySem.MeetsSeq2 PySem.MeetsSeq3
end
section
variable {prog : Program} {w : World} {A : Around} {E : Value → Shared → Prop} {s : Shared}
theorem cat_tup {t b : Addr} {vs ws : List Value} {Q : Value → Shared → Prop} (ht : IsTup s.heap t vs.toArray) (hb : IsTup s.heap b ws.toArray) (hv : vs ≠ [])
    (h1 : ws = [] → Q (.ref t) s) (h2 : ws ≠ [] → Q (.ref s.heap.objs.size) { s with heap := s.heap.push { cls := .type "tuple", data := .seq (vs ++ ws).toArray } })
    (hsz : vs.length + ws.length ≤ sizeLine) : wpAny (model prog w) A (binaryOp .Add (.ref t) (.ref b)) Q E s := by
  obtain ⟨⟨cls, dd, data, sl⟩, ho, hc, n, hd⟩ := id ht
  obtain ⟨⟨cls2, dd2, data2, sl2⟩, ho2, hc2, n2, hd2⟩ := id hb
  simp only at hc hd hc2 hd2
  subst hc hd hc2 hd2
  have e : vs.toArray ++ ws.toArray = (vs ++ ws).toArray := by simp
  by_cases hw : ws = []
  · exact concat_meets ⟨_, ho, rfl⟩ ⟨_, ho2, rfl⟩ noFill_tuple_add seq_tuple_add PySem.F.slot_tuple_add PySem.F.entry_tuple_add (PySem.F.args_tuple_add_2 _ _)
      (tuple_addW1 t b vs.toArray ws.toArray n n2 dd dd2 sl sl2 (by simpa using hv) (by simp [hw])) ⟨ho, ho2, h1 hw⟩
  · refine concat_meets ⟨_, ho, rfl⟩ ⟨_, ho2, rfl⟩ noFill_tuple_add seq_tuple_add PySem.F.slot_tuple_add PySem.F.entry_tuple_add (PySem.F.args_tuple_add_2 _ _)
      (tuple_addW2 t b vs.toArray ws.toArray n n2 dd dd2 sl sl2 (by simpa using hv) (by simpa using hw) (by rw [List.size_toArray, List.size_toArray]; exact hsz)) ⟨ho, ho2, ?_⟩
    rw [e]
    exact h2 hw
noncomputable def sIx (n d : Nat) : Option Int → Nat
  | none => d
  | some v => if v < 0 then (v + (n : Int)).toNat else min v.toNat n
theorem sIx_le (n d : Nat) (hd : d ≤ n) (o : Option Int) : sIx n d o ≤ n := by
  cases o with
  | none => exact hd
  | some v =>
    show (if v < 0 then (v + (n : Int)).toNat else min v.toNat n) ≤ n
    by_cases hv : v < 0
    · rw [if_pos hv]; omega
    · rw [if_neg hv]; exact Nat.min_le_right _ _
theorem clip_eq (v : Int) (n d : Nat) : (if v < 0 then max (v + (n : Int)) 0 else min v (n : Int)) = ((sIx n d (some v) : Nat) : Int) := by
  show (if v < 0 then max (v + (n : Int)) 0 else min v (n : Int)) = (((if v < 0 then (v + (n : Int)).toNat else min v.toNat n) : Nat) : Int)
  by_cases hv : v < 0
  · simp only [if_pos hv]; omega
  · simp only [if_neg hv]; omega
theorem adjust_gen (lo hi : Option Int) (n : Nat) : Builtin.Slice.sliceAdjust lo hi 1 (n : Int) = (((sIx n 0 lo : Nat) : Int), ((sIx n n hi : Nat) : Int)) := by
  have h1 : ¬ ((1 : Int) < 0) := by omega
  unfold Builtin.Slice.sliceAdjust
  simp only [h1, if_false]
  refine Prod.ext ?_ ?_
  · cases lo with
    | none => rfl
    | some v => exact clip_eq v n 0
  · cases hi with
    | none => rfl
    | some v => exact clip_eq v n n
theorem places_gen (i j : Nat) : Builtin.Slice.slicePlaces (i : Int) (j : Int) 1 = j - i := by
  unfold Builtin.Slice.slicePlaces
  have h1 : (1 : Int) > 0 := by omega
  simp only [h1, if_true, Int.ediv_one]
  split <;> omega
theorem slicePart_ {v : Value} {o : Option Int} {Q : Option Int → Shared → Prop} (p : IsPart v o) (h : Q o s) : wpAny (model prog w) A (Builtin.Slice.slicePartIndex v) Q E s := by
  cases p with
  | none => exact slicePart_none h
  | int i t => exact slicePart_int h
theorem sliceApplied_gen {sl : Addr} {vl vu : Value} {lo hi : Option Int} {n : Nat} {Q : Int × Int × Nat → Shared → Prop} (hs : s.heap.IsSliceOf sl vl vu .none) (pl : IsPart vl lo) (pu : IsPart vu hi)
    (h : Q (((sIx n 0 lo : Nat) : Int), 1, sIx n n hi - sIx n 0 lo) s) : wpAny (model prog w) A (Builtin.Slice.sliceApplied (.ref sl) (pure (n : Int))) Q E s := by
  obtain ⟨os, hos, hcs, hds⟩ := id hs
  unfold Builtin.Slice.sliceApplied Builtin.Slice.sliceFields
  refine wpAny_bind (wpAny_bind (wpAny_field hos hds (x := vl) rfl (wpAny_bind (wpAny_field hos hds (x := vu) rfl (wpAny_bind (wpAny_field hos hds (x := .none) rfl (wpAny_pure ?_)))))))
  refine wpAny_bind (slicePart_none ?_)
  show wpAny _ _ (if ((1 : Int) == 0) = true then _ else _) _ _ s
  rw [if_neg (by decide)]
  refine wpAny_bind (slicePart_ pl (wpAny_bind (slicePart_ pu (wpAny_bind (wpAny_pure ?_)))))
  show wpAny _ _ (match Builtin.Slice.sliceAdjust lo hi 1 (n : Int) with | (lo, hi) => pure (lo, (1 : Int), Builtin.Slice.slicePlaces lo hi 1)) _ _ s
  rw [adjust_gen lo hi n]
  show wpAny _ _ (pure (((sIx n 0 lo : Nat) : Int), (1 : Int), Builtin.Slice.slicePlaces ((sIx n 0 lo : Nat) : Int) ((sIx n n hi : Nat) : Int) 1)) _ _ s
  rw [places_gen]
  exact wpAny_pure h
theorem pick_gen (xs : Array Value) (i k : Nat) : ((List.range k).filterMap fun (m : Nat) => xs[((i : Int) + (m : Int) * 1).toNat]?).toArray = ((xs.toList.drop i).take k).toArray := by
  have e : (fun (m : Nat) => xs[((i : Int) + (m : Int) * 1).toNat]?) = fun m => xs[i + m]? := by
    funext m
    have : ((i : Int) + (m : Int) * 1).toNat = i + m := by omega
    rw [this]
  rw [e]
  have := pick_run xs i k
  rw [List.filterMap_map] at this
  have e2 : ((fun x => xs[x]?) ∘ fun x => i + x) = fun m => xs[i + m]? := rfl
  rw [e2] at this
  rw [this]
theorem getItem_tuple_cut {t sl : Addr} {items : Array Value} {vl vu : Value} {lo hi : Option Int} {Q : Value → Shared → Prop} (ht : IsTup s.heap t items) (hs : s.heap.IsSliceOf sl vl vu .none) (pl : IsPart vl lo) (pu : IsPart vu hi)
    (hw : ¬ (sIx items.size 0 lo = 0 ∧ sIx items.size items.size hi = items.size))
    (h : Q (.ref s.heap.objs.size) { s with heap := s.heap.push { cls := .type "tuple", data := .seq ((items.toList.drop (sIx items.size 0 lo)).take (sIx items.size items.size hi - sIx items.size 0 lo)).toArray } })
    (hsz : items.size ≤ sizeLine) : wpAny (model prog w) A (getItem (.ref t) (.ref sl)) Q E s := by
  have htake : sizeOk (.seq ((items.toList.drop (sIx items.size 0 lo)).take (sIx items.size items.size hi - sIx items.size 0 lo)).toArray) := by
    show ((items.toList.drop (sIx items.size 0 lo)).take (sIx items.size items.size hi - sIx items.size 0 lo)).toArray.size ≤ sizeLine
    rw [List.size_toArray, List.length_take, List.length_drop, Array.length_toList]
    omega
  have hj : sIx items.size items.size hi ≤ items.size := sIx_le _ _ (Nat.le_refl _) hi
  obtain ⟨os, hos, hcs, hds⟩ := id hs
  have hTs : s.TypeIs (.ref sl) "slice" := ⟨os, hos, hcs⟩
  unfold getItem
  try with_reducible refine wpAny_holding ?_
  first | refine wpAny_bind (wpAny_pure ?_) | skip
  refine wpAny_bind (wpAny_sequenceKey ht.typeIs (by decide) ?_)
  refine wpAny_bind (wpAny_callSpecial?_slot (name := Str.ofString "__getitem__") ht.typeIs PyProof.Rows.slot_tuple_getitem
    (wpAny_call_entry PyProof.Rows.slot_tuple_getitem ht.typeIs entry_tuple_getitem ?_ (args_tuple_getitem _ _)))
  show wpAny _ _ (Builtin.Tuple.tupleItemsOf (.ref t) >>= _) _ _ s
  refine wpAny_bind (tupleItemsOf_ ht ?_)
  refine wpAny_bind (wpAny_typeOf hTs ?_)
  rw [if_pos (by decide)]
  refine wpAny_bind (sliceApplied_gen hs pl pu ?_)
  have hno : ¬ ((((sIx items.size 0 lo : Nat) : Int) == 0 && (1 : Int) == 1 && (sIx items.size items.size hi - sIx items.size 0 lo) == items.size) = true) := by
    intro q
    rw [Bool.and_eq_true, Bool.and_eq_true] at q
    have q1 : ((sIx items.size 0 lo : Nat) : Int) = 0 := eq_of_beq q.1.1
    have q2 : sIx items.size items.size hi - sIx items.size 0 lo = items.size := eq_of_beq q.2
    exact hw ⟨by omega, by omega⟩
  show wpAny _ _ (if (((sIx items.size 0 lo : Nat) : Int) == 0 && (1 : Int) == 1 && (sIx items.size items.size hi - sIx items.size 0 lo) == items.size) = true then _ else _) _ _ s
  rw [if_neg hno, pick_gen]
  first
    | exact wpAny_bind (m := Builtin.Tuple.tupleExact _) (wpAny_newObj_type (wpAny_pure ⟨_, rfl, wpAny_pure h⟩) htake)
    | exact wpAny_bind (m := Builtin.Tuple.tupleExact _) (wpAny_newObj_type (wpAny_bind (wpAny_pure (wpAny_pure ⟨_, rfl, wpAny_pure h⟩))) htake)
    | exact wpAny_bind (wpAny_bind (m := Builtin.Tuple.tupleExact _) (wpAny_newObj_type (wpAny_pure (wpAny_pure ⟨_, rfl, wpAny_pure h⟩)) htake))
    | exact wpAny_bind (wpAny_bind (m := Builtin.Tuple.tupleExact _) (wpAny_newObj_type (wpAny_pure ⟨_, rfl, wpAny_pure h⟩) htake))
end
end HT
namespace L2
open PySem PySem.Spec PyProof.Rows
noncomputable abbrev TO := St → Hp → (Option Int → Hp → Prop) → Prop
noncomputable def PO (X : Cx) (e : Option Expr) (t : TO) : Prop :=
  ∀ (pins : List (Addr × Obj)) (s : Shared) (σ : St) (H : Hp) (Q : Option Int → Hp → Prop), Inv X pins σ H s → t σ H Q →
    wpAny (model X.prog X.w) X.A (evalPart e X.env) (fun u s' => ∃ o H', Inv X pins σ H' s' ∧ IsPart u o ∧ Q o H') X.xe s
noncomputable def tNoPart : TO := fun _ H Q => Q none H
noncomputable def tPart (t : TE) : TO := fun σ H Q => t σ H fun x H1 => ∃ i, x = .int i ∧ Q (some i) H1
section
variable {X : Cx} {e : Expr} {te : TE} {lo hi : Option Expr} {tl th : TO} {pos p2 : Pos}
theorem po_none : PO X none tNoPart := by
  intro pins s σ H Q I h
  rw [evalPart_none]
  exact wpAny_pure ⟨none, H, I, .none, h⟩
theorem po_some (h : PE X e te) : PO X (some e) (tPart te) := by
  intro pins s σ H Q I hw
  rw [evalPart_some]
  refine thn (h pins s σ H _ I hw) fun u s1 ⟨x, H1, I1, r1, q1⟩ => ?_
  obtain ⟨i, rfl, q⟩ := q1
  obtain ⟨t, rfl⟩ := r1
  exact ⟨some i, H1, I1, .int i t, q⟩
noncomputable def SlR (X : Cx) (r : V → Option Int → Option Int → Hp → VK → Prop) : Prop :=
  ∀ (pins : List (Addr × Obj)) (s : Shared) (σ : St) (H : Hp) (x : V) (v vl vu : Value) (lo hi : Option Int) (sl : Addr) (Q : VK), Inv X pins σ H s → RelV x v → s.heap.IsSliceOf sl vl vu .none → IsPart vl lo → IsPart vu hi → r x lo hi H Q →
    ∃ T id, typeLookup (.type T) "__getitem__" = pure (some (.builtin id)) ∧ s.TypeIs v T ∧ wpAny (model X.prog X.w) X.A (getItem v (.ref sl)) (EP X pins σ Q) X.xe s
theorem SlR.or {r r' : V → Option Int → Option Int → Hp → VK → Prop} (h : SlR X r) (h' : SlR X r') : SlR X (fun x lo hi H Q => r x lo hi H Q ∨ r' x lo hi H Q) := by
  intro pins s σ H x v vl vu lo hi sl Q I rx hs pl pu q
  rcases q with q | q
  · exact h pins s σ H x v vl vu lo hi sl Q I rx hs pl pu q
  · exact h' pins s σ H x v vl vu lo hi sl Q I rx hs pl pu q
noncomputable def tSl (r : V → Option Int → Option Int → Hp → VK → Prop) (te : TE) (tl th : TO) : TE := fun σ H Q => te σ H fun x H1 => tl σ H1 fun l H2 => th σ H2 fun u H3 => r x l u H3 Q
theorem pe_slice {r : V → Option Int → Option Int → Hp → VK → Prop} (hr : SlR X r) (he : PE X e te) (hl : PO X lo tl) (hu : PO X hi th) : PE X (.Subscript e (.Slice lo hi none p2) pos) (tSl r te tl th) := by
  intro pins s σ H Q I h
  refine Subscript_ (thn (he pins s σ H _ I h) fun v s1 ⟨x, H1, I1, r1, q1⟩ => ?_)
  refine wpAny_Slice (thn (hl pins s1 σ H1 _ I1 q1) fun vl s2 ⟨l, H2, I2, pl, q2⟩ => thn (hu pins s2 σ H2 _ I2 q2) fun vu s3 ⟨u, H3, I3, pu, q3⟩ => ?_)
  rw [evalPart_none]
  refine wpAny_pure ?_
  have I4 : Inv X pins σ H3 { s3 with heap := s3.heap.push { cls := .type "slice", data := .fields #[vl, vu, .none] } } := I3.kept (t' := s3.toks) fun b ob q => Heap.get?_push_of_some _ q
  obtain ⟨T, id, hT, ht, hg⟩ := hr pins { s3 with heap := s3.heap.push { cls := .type "slice", data := .fields #[vl, vu, .none] } } σ H3 x v vl vu l u s3.heap.objs.size Q I4 r1 (Heap.IsSliceOf.new ..) pl pu q3
  show wpAny (model X.prog X.w) X.A (subscriptTail e (.Slice lo hi none p2) v (.ref s3.heap.objs.size)) (EP X pins σ Q) X.xe { s3 with heap := s3.heap.push { cls := .type "slice", data := .fields #[vl, vu, .none] } }
  exact tail_any (ops := [.ref s3.heap.objs.size, v]) ht hT hg (by with_unfolding_all rfl)
noncomputable def cutV (xs : List V) (lo hi : Option Int) : List V := (xs.drop (HT.sIx xs.length 0 lo)).take (HT.sIx xs.length xs.length hi - HT.sIx xs.length 0 lo)
theorem cutV_length (xs : List V) (lo hi : Option Int) : (cutV xs lo hi).length ≤ xs.length := by
  unfold cutV
  rw [List.length_take, List.length_drop]
  omega
noncomputable def rSlT (K : PySem.W.Frag) : V → Option Int → Option Int → Hp → VK → Prop := fun x lo hi H Q => ∃ a xs, x = .ref a ∧ SqT K H a xs ∧
  ¬ (HT.sIx xs.length 0 lo = 0 ∧ HT.sIx xs.length xs.length hi = xs.length) ∧ ∀ p, H p = none → Q (.ref p) (upd H p (.tup (cutV xs lo hi)))
theorem sl_tup : SlR X (rSlT X.K) := by
  intro pins s σ H x v vl vu lo hi sl Q I rx hs pl pu h
  obtain ⟨a, xs, rfl, hx, hw, q⟩ := h
  cases rx
  obtain ⟨its, r, ht, hz⟩ := I.tuple hx
  have hlen : its.toArray.size = xs.length := by rw [List.size_toArray]; exact r.length.symm
  refine ⟨"tuple", _, PyProof.Rows.slot_tuple_getitem.lookup, ht.typeIs, ?_⟩
  refine HT.getItem_tuple_cut ht hs pl pu (by rw [hlen]; exact hw) ?_ (by rw [hlen]; exact hz)
  rw [hlen]
  refine ⟨.ref s.heap.objs.size, _, I.laid (t' := s.toks) (o := .tup (cutV xs lo hi)) (fun b ob q => Heap.get?_push_of_some _ q) (Nat.le_refl _) ?_, rfl, q _ (I.hok.fresh (Nat.le_refl _))⟩
  exact ⟨Nat.le_trans (cutV_length xs lo hi) hz, _, (r.drop (HT.sIx xs.length 0 lo)).take (HT.sIx xs.length xs.length hi - HT.sIx xs.length 0 lo), IsTup.new _ _⟩
noncomputable def rCatT (K : PySem.W.Frag) : R2 := fun x y H Q => ∃ a b xs ys, x = .ref a ∧ y = .ref b ∧ SqT K H a xs ∧ SqT K H b ys ∧ xs ≠ [] ∧ xs.length + ys.length ≤ sizeLine ∧
  (ys = [] → Q (.ref a) H) ∧ (ys ≠ [] → ∀ p, H p = none → Q (.ref p) (upd H p (.tup (xs ++ ys))))
theorem Vals.nil_iff {xs : List V} {us : List Value} (r : Vals xs us) : us = [] ↔ xs = [] := by
  cases r with
  | nil => simp
  | cons _ _ => simp
theorem op_catT : OpR X (binaryOp .Add) (rCatT X.K) := by
  intro pins s σ H x y v u Q I rx ry h
  obtain ⟨a, b, xs, ys, rfl, rfl, ha, hb, hx, hz, q1, q2⟩ := h
  cases rx
  cases ry
  obtain ⟨its, r1, p1, _⟩ := I.tuple ha
  obtain ⟨its2, r2, p2, _⟩ := I.tuple hb
  refine HT.cat_tup p1 p2 (fun z => hx (r1.nil_iff.mp z)) (fun z => ⟨.ref a, H, I, rfl, q1 (r2.nil_iff.mp z)⟩) (fun z => ?_) (by rw [← r1.length, ← r2.length]; exact hz)
  refine ⟨.ref s.heap.objs.size, _, I.laid (t' := s.toks) (o := .tup (xs ++ ys)) (fun b ob q => Heap.get?_push_of_some _ q) (Nat.le_refl _) ?_, rfl, q2 (fun w => z (r2.nil_iff.mpr w)) _ (I.hok.fresh (Nat.le_refl _))⟩
  exact ⟨by rw [List.length_append]; exact hz, _, r1.append r2, IsTup.new _ _⟩
end
end L2
namespace L2
open PySem PySem.Spec PyProof.Rows
noncomputable def ixN (n : Nat) (i : Int) : Option Nat := if 0 ≤ i then (if i < n then some i.toNat else none) else if -(n : Int) ≤ i then some (i + n).toNat else none
noncomputable def atI {α : Type} (xs : List α) (i : Int) : Option α := (ixN xs.length i).bind fun j => xs[j]?
theorem ixN_seq {n : Nat} {i : Int} {j : Nat} (h : ixN n i = some j) : seqIndex? i n = some j ∧ j < n ∧ -(n : Int) ≤ i ∧ i < n := by
  unfold ixN at h
  by_cases h0 : 0 ≤ i
  · rw [if_pos h0] at h
    by_cases h1 : i < n
    · rw [if_pos h1] at h
      have e : i.toNat = j := Option.some.inj h
      exact ⟨by rw [seqIndex_of h0 h1, e], by omega, by omega, h1⟩
    · rw [if_neg h1] at h; cases h
  · rw [if_neg h0] at h
    by_cases h1 : -(n : Int) ≤ i
    · rw [if_pos h1] at h
      have e : (i + n).toNat = j := Option.some.inj h
      exact ⟨by rw [seqIndex_neg (by omega) h1, e], by omega, h1, by omega⟩
    · rw [if_neg h1] at h; cases h
theorem atI_get {α : Type} {xs : List α} {i : Int} {v : α} (h : atI xs i = some v) : ∃ j, seqIndex? i xs.length = some j ∧ xs[j]? = some v ∧ j < xs.length ∧ -(xs.length : Int) ≤ i ∧ i < xs.length := by
  unfold atI at h
  cases e : ixN xs.length i with
  | none => rw [e] at h; cases h
  | some j =>
    rw [e] at h
    obtain ⟨h1, h2, h3, h4⟩ := ixN_seq e
    exact ⟨j, h1, h, h2, h3, h4⟩
theorem atI_nat {α : Type} {xs : List α} {j : Nat} {v : α} (h : xs[j]? = some v) : atI xs (j : Int) = some v := by
  have hj : j < xs.length := (List.getElem?_eq_some_iff.mp h).1
  have e : ixN xs.length (j : Int) = some j := by
    unfold ixN
    rw [if_pos (by omega), if_pos (by omega)]; simp
  unfold atI; rw [e]; exact h
noncomputable def PlainIx (b : Expr) : Prop := ∀ o i, subscripted b false o i = operate [o, i] (getItem o i)
noncomputable def IxR (X : Cx) (r : R2) : Prop :=
  ∀ (value slice : Expr) (pins : List (Addr × Obj)) (s : Shared) (σ : St) (H : Hp) (x y : V) (v u : Value) (Q : VK), Inv X pins σ H s → RelV x v → RelV y u → r x y H Q →
    subscripted slice false v u = operate [v, u] (getItem v u) → wpAny (model X.prog X.w) X.A (subscriptTail value slice v u) (EP X pins σ Q) X.xe s
noncomputable def MtR (X : Cx) (id : String) (r : V → List V → Hp → VK → Prop) : Prop :=
  ∀ (pins : List (Addr × Obj)) (s : Shared) (σ : St) (H : Hp) (x : V) (xs : List V) (v : Value) (us : List Value) (Q : VK), Inv X pins σ H s → RelV x v → Vals xs us → r x xs H Q →
    wpAny (model X.prog X.w) X.A (call (.builtin id) (v :: us)) (EP X pins σ Q) X.xe s
section
variable {X : Cx} {a b : Expr} {ta tb : TE} {pos : Pos}
theorem IxR.or {r r' : R2} (h : IxR X r) (h' : IxR X r') : IxR X (fun x y H Q => r x y H Q ∨ r' x y H Q) := by
  intro value slice pins s σ H x y v u Q I rx ry q hs
  rcases q with q | q
  · exact h value slice pins s σ H x y v u Q I rx ry q hs
  · exact h' value slice pins s σ H x y v u Q I rx ry q hs
theorem pe_ix {r : R2} (hr : IxR X r) (ha : PE X a ta) (hb : PE X b tb) (hs : PlainIx b) : PE X (.Subscript a b pos) (tOp r ta tb) := by
  intro pins s σ H Q I h
  exact Subscript_ (binT ha hb I h fun v u s2 x y H2 I2 rx ry q => hr a b pins s2 σ H2 x y v u Q I2 rx ry q (hs _ _))
noncomputable def rIxL (K : PySem.W.Frag) : R2 := fun x y H Q => ∃ p xs i v, x = .ref p ∧ y = .int i ∧ SqL K H p xs ∧ atI xs i = some v ∧ Q v H
noncomputable def rIxT (K : PySem.W.Frag) : R2 := fun x y H Q => ∃ p xs i v, x = .ref p ∧ y = .int i ∧ SqT K H p xs ∧ atI xs i = some v ∧ Q v H
noncomputable def rIxS : R2 := fun x y H Q => ∃ z i c, x = .str z ∧ y = .int i ∧ z.length ≤ sizeLine ∧ atI z.cps.toList i = some c ∧ Q (.str ⟨#[c]⟩) H
theorem ix_list : IxR X (rIxL X.K) := by
  intro value slice pins s σ H x y v u Q I rx ry h hs
  obtain ⟨p, xs, i, z, rfl, rfl, hq, he, q⟩ := h
  cases rx
  obtain ⟨t, rfl⟩ := ry
  obtain ⟨its, r, pl, hz⟩ := I.list hq
  obtain ⟨j, h1, h2, h3, h4, h5⟩ := atI_get he
  obtain ⟨w, ew, rw'⟩ := r.get h2
  have hl := r.length
  have hn := line63
  have fin : EP X pins σ Q w s := ⟨z, H, I, rw', q⟩
  by_cases h0 : 0 ≤ i
  · have hj : i.toNat = j := by
      rw [seqIndex_of h0 h5] at h1
      exact Option.some.inj h1
    exact item_listR pl.isList h0 (by omega) (by rw [hj]; simpa using ew) fin hs
  · have hj : (i + (its.toArray.size : Int)).toNat = j := by
      rw [seqIndex_neg (by omega) h4] at h1
      rw [List.size_toArray, ← hl]
      exact Option.some.inj h1
    exact subscriptTail_builtinR (x := w) pl.isList.typeIs slot_list_getitem.lookup
      (wpAny_getItem_list_neg (Q := fun r s' => r = w ∧ EP X pins σ Q r s') pl.isList (by omega) (by rw [List.size_toArray] <;> omega) (by omega) (by rw [hj]; simpa using ew) ⟨rfl, fin⟩) hs
theorem ix_tup : IxR X (rIxT X.K) := by
  intro value slice pins s σ H x y v u Q I rx ry h hs
  obtain ⟨p, xs, i, z, rfl, rfl, hq, he, q⟩ := h
  cases rx
  obtain ⟨t, rfl⟩ := ry
  obtain ⟨its, r, pl, hz⟩ := I.tuple hq
  obtain ⟨j, h1, h2, h3, h4, h5⟩ := atI_get he
  obtain ⟨w, ew, rw'⟩ := r.get h2
  have hl := r.length
  have hn := line63
  have fin : EP X pins σ Q w s := ⟨z, H, I, rw', q⟩
  exact subscriptTail_builtinR (x := w) pl.typeIs slot_tuple_getitem.lookup
    (getItem_tuple (j := j) (Q := fun r s' => r = w ∧ EP X pins σ Q r s') pl (by omega) (by omega) (by rw [List.size_toArray, ← hl]; exact h1) (by simpa using ew) ⟨rfl, fin⟩) hs
theorem ix_str : IxR X rIxS := by
  intro value slice pins s σ H x y v u Q I rx ry h hs
  obtain ⟨z, i, c, rfl, rfl, hz, he, q⟩ := h
  obtain ⟨t, rfl⟩ := rx
  obtain ⟨t', rfl⟩ := ry
  obtain ⟨j, h1, h2, h3, h4, h5⟩ := atI_get he
  have hl : z.cps.toList.length = z.length := by simp [Str.length]
  rw [hl] at h1 h4 h5
  have hn := line63
  exact tail_any (typeIs_str s z t) slot_str_getitem.lookup (getItem_str (c := c) (by
    have e1 : decide (i < -(2 ^ 63 : Int)) = false := decide_eq_false (by omega)
    have e2 : decide (i ≥ 2 ^ 63) = false := decide_eq_false (by omega)
    rw [e1, e2, Bool.or_false]) (by rw [h1]; simpa using h2) ⟨.str ⟨#[c]⟩, H, I.tok _, ⟨_, rfl⟩, q⟩) hs
noncomputable def rIx (K : PySem.W.Frag) : R2 := fun x y H Q => rIxL K x y H Q ∨ rIxT K x y H Q ∨ rIxS x y H Q
theorem ix_seq : IxR X (rIx X.K) := ix_list.or (ix_tup.or ix_str)
theorem slice_bounds (lo hi : Option Int) (n : Nat) : (sliceBounds lo hi none n).1 = ((HT.sIx n 0 lo : Nat) : Int) ∧ (sliceBounds lo hi none n).2.1 = ((HT.sIx n n hi : Nat) : Int) ∧ (sliceBounds lo hi none n).2.2 = 1 := by
  refine ⟨?_, ?_, rfl⟩
  · cases lo with
    | none => simp [sliceBounds, HT.sIx]
    | some i =>
      simp only [sliceBounds, HT.sIx, Option.getD_none, show (1 : Int) > 0 by decide, if_true]
      by_cases h : i < 0
      · simp only [h, if_true] <;> omega
      · simp only [h, if_false] <;> omega
  · cases hi with
    | none => simp [sliceBounds, HT.sIx]
    | some i =>
      simp only [sliceBounds, HT.sIx, Option.getD_none, show (1 : Int) > 0 by decide, if_true]
      by_cases h : i < 0
      · simp only [h, if_true] <;> omega
      · simp only [h, if_false] <;> omega
theorem slicePick_cut (its : List Value) (lo hi : Option Int) : slicePick its.toArray lo hi none = ((its.drop (HT.sIx its.length 0 lo)).take (HT.sIx its.length its.length hi - HT.sIx its.length 0 lo)).toArray := by
  obtain ⟨h1, h2, h3⟩ := slice_bounds lo hi its.toArray.size
  unfold slicePick
  rw [h1, h2, h3]
  simp only [sliceRange_one, pick_run, List.size_toArray] <;> rfl
noncomputable def rSlL (K : PySem.W.Frag) : V → Option Int → Option Int → Hp → VK → Prop := fun x lo hi H Q => ∃ a xs, x = .ref a ∧ SqL K H a xs ∧ ∀ p, H p = none → Q (.ref p) (upd H p (.lst (cutV xs lo hi)))
theorem sl_list : SlR X (rSlL X.K) := by
  intro pins s σ H x v vl vu lo hi sl Q I rx hs pl pu h
  obtain ⟨a, xs, rfl, hx, q⟩ := h
  cases rx
  obtain ⟨its, r, ht, hz⟩ := I.list hx
  have hlen := r.length
  refine ⟨"list", _, slot_list_getitem.lookup, ht.isList.typeIs, ?_⟩
  refine wpAny_getItem_list_slice ht.isList hs pl pu .none (by simp) ?_ (by rw [List.size_toArray] <;> omega)
  rw [slicePick_cut, ← hlen]
  refine ⟨.ref s.heap.objs.size, _, I.laid (t' := s.toks) (o := .lst (cutV xs lo hi)) (fun b ob q => Heap.get?_push_of_some _ q) (Nat.le_refl _) ?_, rfl, q _ (I.hok.fresh (Nat.le_refl _))⟩
  exact ⟨Nat.le_trans (cutV_length xs lo hi) hz, _, 0, (r.drop (HT.sIx xs.length 0 lo)).take (HT.sIx xs.length xs.length hi - HT.sIx xs.length 0 lo), Heap.get?_push_size _ rfl⟩
noncomputable def flatV : V → Bool
  | .non => true
  | .bl _ => true
  | .int _ => true
  | .str _ => true
  | _ => false
noncomputable def eqV : V → V → Bool
  | .non, .non => true
  | .bl a, .bl b => a == b
  | .bl a, .int b => (if a then 1 else 0) == b
  | .int a, .bl b => a == (if b then 1 else 0)
  | .int a, .int b => a == b
  | .str a, .str b => a == b
  | _, _ => false
theorem eqAt_V {A : Around} {s : Shared} {y x : V} {u v : Value} (ry : RelV y u) (rx : RelV x v) (fy : flatV y = true) (fx : flatV x = true) : SeqAt.EqAt A s u v (eqV y x) := by
  cases y with
  | non =>
    cases ry
    cases x with
    | non => cases rx; exact SeqAt.EqAt.same _
    | bl b => cases rx; exact SeqAt.EqAt.none_bool b
    | int b => obtain ⟨t, rfl⟩ := rx; exact SeqAt.EqAt.none_int b t
    | str b => obtain ⟨t, rfl⟩ := rx; exact SeqAt.EqAt.none_str b t
    | _ => exact absurd (show false = true from fx) Bool.false_ne_true
  | bl a =>
    cases ry
    cases x with
    | non => cases rx; exact SeqAt.EqAt.bool_none a
    | bl b => cases rx; exact SeqAt.EqAt.bool_bool a b
    | int b => obtain ⟨t, rfl⟩ := rx; exact SeqAt.EqAt.bool_int a b t
    | str b => obtain ⟨t, rfl⟩ := rx; exact SeqAt.EqAt.bool_str a b t
    | _ => exact absurd (show false = true from fx) Bool.false_ne_true
  | int a =>
    obtain ⟨t', rfl⟩ := ry
    cases x with
    | non => cases rx; exact SeqAt.EqAt.int_none a t'
    | bl b => cases rx; exact SeqAt.EqAt.int_bool a t' b
    | int b => obtain ⟨t, rfl⟩ := rx; exact SeqAt.EqAt.int_int a t' b t
    | str b => obtain ⟨t, rfl⟩ := rx; exact SeqAt.EqAt.int_str a t' b t
    | _ => exact absurd (show false = true from fx) Bool.false_ne_true
  | str a =>
    obtain ⟨t', rfl⟩ := ry
    cases x with
    | non => cases rx; exact SeqAt.EqAt.str_none a t'
    | bl b => cases rx; exact SeqAt.EqAt.str_bool a t' b
    | int b => obtain ⟨t, rfl⟩ := rx; exact SeqAt.EqAt.str_int a t' b t
    | str b => obtain ⟨t, rfl⟩ := rx; exact SeqAt.EqAt.str_str a t' b t
    | _ => exact absurd (show false = true from fx) Bool.false_ne_true
  | _ => exact absurd (show false = true from fy) Bool.false_ne_true
noncomputable def eqU (x : V) (u : Value) : Bool := match u with
  | .none => eqV .non x
  | .bool b => eqV (.bl b) x
  | .int i _ => eqV (.int i) x
  | .str z _ => eqV (.str z) x
  | _ => false
theorem eqU_of {x y : V} {u : Value} (r : RelV y u) (f : flatV y = true) : eqU x u = eqV y x := by
  cases y with
  | non => cases r; rfl
  | bl b => cases r; rfl
  | int i => obtain ⟨t, rfl⟩ := r; rfl
  | str z => obtain ⟨t, rfl⟩ := r; rfl
  | _ => exact absurd (show false = true from f) Bool.false_ne_true
theorem any_eqU {x : V} : ∀ {xs : List V} {us : List Value}, Vals xs us → xs.all flatV = true → us.any (eqU x) = xs.any fun y => eqV y x
  | _, _, .nil, _ => rfl
  | y :: xs, u :: us, .cons r t, f => by
    rw [List.all_cons, Bool.and_eq_true] at f
    rw [List.any_cons, List.any_cons, eqU_of r f.1, any_eqU t f.2]
theorem mem_eqAt {A : Around} {s : Shared} {x : V} {v : Value} (rx : RelV x v) (fx : flatV x = true) : ∀ {xs : List V} {us : List Value}, Vals xs us → xs.all flatV = true → ∀ u ∈ us, SeqAt.EqAt A s u v (eqU x u)
  | _, _, .nil, _ => fun u hu => by cases hu
  | y :: xs, u :: us, .cons r t, f => fun u' hu => by
    rw [List.all_cons, Bool.and_eq_true] at f
    rcases List.mem_cons.mp hu with rfl | hu
    · rw [eqU_of r f.1]; exact eqAt_V r rx f.1 fx
    · exact mem_eqAt rx fx t f.2 u' hu
noncomputable def inV (x : V) (xs : List V) : Bool := xs.any fun y => eqV y x
noncomputable def rIn (K : PySem.W.Frag) (neg : Bool) : R2 := fun x y H Q => ∃ p xs, y = .ref p ∧ (SqL K H p xs ∨ SqT K H p xs) ∧ flatV x = true ∧ xs.all flatV = true ∧ Q (.bl (if neg then !inV x xs else inV x xs)) H
theorem op_in_seq : OpR X (compareOp .In) (rIn X.K false) := by
  intro pins s σ H x y v u Q I rx ry h
  obtain ⟨p, xs, rfl, hq, fx, fs, q⟩ := h
  cases ry
  rcases hq with hq | hq
  · obtain ⟨its, r, pl, hz⟩ := I.list hq
    refine SeqAt.in_listAt (eqU x) pl.isList (fun w hw => mem_eqAt rx fx r fs w (by simpa using hw)) ⟨.bl _, H, I, rfl, ?_⟩
    rw [show its.toArray.any (eqU x) = its.any (eqU x) by simp, any_eqU r fs]
    exact q
  · obtain ⟨its, r, pl, hz⟩ := I.tuple hq
    refine SeqAt.in_tupleAt (eqU x) pl (fun w hw => mem_eqAt rx fx r fs w (by simpa using hw)) ⟨.bl _, H, I, rfl, ?_⟩
    rw [show its.toArray.any (eqU x) = its.any (eqU x) by simp, any_eqU r fs]
    exact q
theorem op_notIn_seq : OpR X (compareOp .NotIn) (rIn X.K true) := by
  intro pins s σ H x y v u Q I rx ry h
  obtain ⟨p, xs, rfl, hq, fx, fs, q⟩ := h
  cases ry
  rcases hq with hq | hq
  · obtain ⟨its, r, pl, hz⟩ := I.list hq
    refine SeqAt.notIn_listAt (eqU x) pl.isList (fun w hw => mem_eqAt rx fx r fs w (by simpa using hw)) ⟨.bl _, H, I, rfl, ?_⟩
    rw [show its.toArray.any (eqU x) = its.any (eqU x) by simp, any_eqU r fs]
    exact q
  · obtain ⟨its, r, pl, hz⟩ := I.tuple hq
    refine SeqAt.notIn_tupleAt (eqU x) pl (fun w hw => mem_eqAt rx fx r fs w (by simpa using hw)) ⟨.bl _, H, I, rfl, ?_⟩
    rw [show its.toArray.any (eqU x) = its.any (eqU x) by simp, any_eqU r fs]
    exact q
theorem call_list_of : CallR X (.type "list") (fun xs H Q => ∃ p ys, xs = [.ref p] ∧ (SqL X.K H p ys ∨ SqT X.K H p ys) ∧ ∀ l, H l = none → Q (.ref l) (upd H l (.lst ys))) := by
  intro pins s σ H xs us Q I r h
  obtain ⟨p, ys, rfl, hq, q⟩ := h
  obtain ⟨u, rfl, rx⟩ := vals1 r
  cases rx
  have fin : ∀ (its : List Value), Vals ys its → ys.length ≤ sizeLine → ∀ (h' : Heap) (c' : Nat), (∀ b o', s.heap.get? b = some o' → h'.get? b = some o') →
      h'.get? s.heap.objs.size = some { cls := .type "list", dict := none, data := .seq its.toArray c', slots := #[] } → EP X pins σ Q (.ref s.heap.objs.size) { s with heap := h' } := fun its r' hz h' c' kp e =>
    ⟨.ref s.heap.objs.size, _, I.laid (t' := s.toks) kp (Nat.le_refl _) (show ObjOk X.prog X.w _ h' _ (.lst ys) from ⟨hz, its, c', r', e⟩), rfl, q _ (I.hok.fresh (Nat.le_refl _))⟩
  rcases hq with hq | hq
  · obtain ⟨its, r', pl, hz⟩ := I.list hq
    have hlen := r'.length
    obtain ⟨o, ho, hc, n, hd⟩ := pl.isList
    exact call_list_seq p (.inl rfl) ho hc hd (fun h' c' kp e => fin its r' hz h' c' kp e) (by simp only [List.size_toArray] <;> omega)
  · obtain ⟨its, r', pl, hz⟩ := I.tuple hq
    have hlen := r'.length
    obtain ⟨o, ho, hc, n, hd⟩ := pl
    exact call_list_seq p (.inr rfl) ho hc hd (fun h' c' kp e => fin its r' hz h' c' kp e) (by simp only [List.size_toArray] <;> omega)
noncomputable def tyV (K : PySem.W.Frag) (T : String) (x : V) (H : Hp) : Prop := match x with
  | .str _ => T = "str"
  | .int _ => T = "int"
  | .ref p => (T = "list" ∧ ∃ xs, SqL K H p xs) ∨ (T = "tuple" ∧ ∃ o, K.lookup p = some o ∧ o.cls = .type "tuple" ∧ o.dict = none) ∨
      (T = "dict" ∧ ((∃ kvs, H p = some (.dK kvs)) ∨ ∃ kvs, H p = some (.dT kvs))) ∨ (T = "set" ∧ ∃ S n, H p = some (.set S n))
  | _ => False
theorem tyV_is {pins : List (Addr × Obj)} {σ : St} {H : Hp} {s : Shared} {T : String} {x : V} {v : Value} (I : Inv X pins σ H s) (r : RelV x v) (ty : tyV X.K T x H) :
    s.TypeIs v T ∧ ∀ a, v = .ref a → ∃ ob, s.heap.get? a = some ob ∧ ob.dict = none := by
  cases x with
  | str z =>
    obtain ⟨t, rfl⟩ := r
    cases (show T = "str" from ty)
    exact ⟨typeIs_str s z t, fun _ e => nomatch e⟩
  | int i =>
    obtain ⟨t, rfl⟩ := r
    cases (show T = "int" from ty)
    exact ⟨typeIs_int s i t, fun _ e => nomatch e⟩
  | ref p =>
    cases r
    rcases ty with ⟨rfl, xs, hq⟩ | ⟨rfl, o, hk, hc, hd⟩ | ⟨rfl, hk⟩ | ⟨rfl, S, n, hk⟩
    · obtain ⟨its, _, pl, _⟩ := I.list hq
      refine ⟨pl.isList.typeIs, fun a e => ?_⟩
      cases e
      obtain ⟨o, n, e, c, hd, _⟩ := pl
      exact ⟨o, e, hd⟩
    · refine ⟨⟨o, I.kIn p o hk, hc⟩, fun a e => ?_⟩
      cases e
      exact ⟨o, I.kIn _ o hk, hd⟩
    · have z : ∃ o, s.heap.get? p = some o ∧ o.ExactDict := by
        rcases hk with ⟨kvs, hk⟩ | ⟨kvs, hk⟩
        · obtain ⟨_, _, _, _, o, _, _, e, ex, _⟩ := I.hok p _ hk
          exact ⟨o, e, ex⟩
        · obtain ⟨_, _, _, _, o, _, _, e, ex, _⟩ := I.hok p _ hk
          exact ⟨o, e, ex⟩
      obtain ⟨o, e, ex⟩ := z
      refine ⟨⟨o, e, ex.1⟩, fun a e2 => ?_⟩
      cases e2
      exact ⟨o, e, ex.2.1⟩
    · obtain ⟨o, _, _, _, e, ex, _⟩ := I.hok p _ hk
      refine ⟨⟨o, e, ex.1⟩, fun a e2 => ?_⟩
      cases e2
      exact ⟨o, e, ex.2.1⟩
  | _ => exact False.elim ty
noncomputable def tBM0 (K : PySem.W.Frag) (T : String) (r : V → List V → Hp → VK → Prop) (to : TE) : TE := fun σ H Q => to σ H fun x H1 => tyV K T x H1 ∧ r x [] H1 Q
noncomputable def tBM (K : PySem.W.Frag) (T : String) (r : V → List V → Hp → VK → Prop) (to : TE) (t : TA) : TE := fun σ H Q => to σ H fun x H1 => tyV K T x H1 ∧ t σ H1 fun xs H2 => r x xs H2 Q
variable {o e : Expr} {es : List Expr} {to : TE} {t : TA} {name : Str} {apos cpos : Pos} {T id : String} {r : V → List V → Hp → VK → Prop}
theorem pe_bm0 (pa : PlainAttrs T) (slot : Slot T name id) (hty : typeOf (.builtin id) = pure (.type "method_descriptor")) (hm : MtR X id r) (ho : PE X o to)
    (hbase : attributeBase o name X.env (eval o X.env) = eval o X.env := by rfl) (hline : (apos.endLine == cpos.line) = true := by rfl) : PE X (.Call (.Attribute o name apos) [] [] cpos) (tBM0 X.K T r to) := by
  intro pins s σ H Q I h
  refine wpAny_Call_method0_late hbase hline (thn (ho pins s σ H _ I h) fun v s1 ⟨x, H1, I1, r1, ty, q1⟩ => ?_)
  obtain ⟨h1, h2⟩ := tyV_is I1 r1 ty
  exact ⟨T, id, pa, slot, hty, h1, h2, Calls.callWith_builtin rfl (PySem.evalArgs_none (hm pins s1 σ H1 x [] v [] Q I1 r1 .nil q1))⟩
theorem pe_bm (pa : PlainAttrs T) (slot : Slot T name id) (hty : typeOf (.builtin id) = pure (.type "method_descriptor")) (hm : MtR X id r) (ho : PE X o to) (ha : PA X (e :: es) t)
    (hbase : attributeBase o name X.env (eval o X.env) = eval o X.env := by rfl)
    (hfew : ((backTo cpos (starEach (e :: es) X.env)).all (fun x => !x.1) && (backToKw cpos (keywordEach [] X.env)).all (fun x => x.1.isSome)
      && decide ((e :: es).length + ([] : List Keyword).length + (if ([] : List Keyword).isEmpty then 0 else 1) < 30)) = true := by rfl)
    (hline : (apos.endLine == cpos.line) = true := by rfl) (hs : starEach (e :: es) X.env = (false, eval e X.env) :: starEach es X.env := by rfl) (hplain : (backTo cpos (starEach es X.env)).any (·.1) = false := by rfl) :
    PE X (.Call (.Attribute o name apos) (e :: es) [] cpos) (tBM X.K T r to t) := by
  intro pins s σ H Q I h
  refine wpAny_Call_method_late hbase hfew hline rfl (thn (ho pins s σ H _ I h) fun v s1 ⟨x, H1, I1, r1, ty, q1⟩ => ?_)
  obtain ⟨h1, h2⟩ := tyV_is I1 r1 ty
  refine ⟨T, id, pa, slot, hty, h1, h2, ?_⟩
  have hA := ha cpos pins s1 σ H1 _ I1 q1
  rw [hs] at hA ⊢
  refine Calls.callWith_builtin (by show (false || (backTo cpos (starEach es X.env)).any (·.1)) = false; rw [hplain] <;> rfl) (Calls.evalArgs_plain ?_)
  exact thn hA fun us s2 ⟨vs, H2, I2, r2, q2⟩ => hm pins s2 σ H2 x vs v us Q I2 r1 r2 q2
/- xs.append(e), list.index on a module's tuple .. are MtR facts of 06m -/
end
end L2
namespace L2
open PySem PySem.Spec PyProof.Rows
noncomputable def MtM (X : Cx) (id : String) (r : V → List V → Hp → VK → Prop) : Prop :=
  ∀ (pins : List (Addr × Obj)) (s : Shared) (σ : St) (H : Hp) (x : V) (xs : List V) (v : Value) (us : List Value) (Q : VK), Inv X pins σ H s → RelV x v → Vals xs us → r x xs H Q →
    wpAny (model X.prog X.w) X.A (call (.builtin id) (v :: us)) (EP X pins σ Q) X.xe s
theorem Vals.one : ∀ {x : V} {us : List Value}, Vals [x] us → ∃ u, us = [u] ∧ RelV x u
  | _, _, .cons r .nil => ⟨_, rfl, r⟩
theorem Vals.zero : ∀ {us : List Value}, Vals [] us → us = []
  | _, .nil => rfl
theorem Vals.dropLast {xs : List V} {us : List Value} (h : Vals xs us) : Vals xs.dropLast us.dropLast := by
  induction h with
  | nil => exact .nil
  | cons r t ih =>
    cases t with
    | nil => exact .nil
    | cons q t' => exact .cons r ih
theorem Vals.reverse {xs : List V} {us : List Value} (h : Vals xs us) : Vals xs.reverse us.reverse := by
  induction h with
  | nil => exact .nil
  | cons r t ih => rw [List.reverse_cons, List.reverse_cons]; exact Vals.append ih (.cons r .nil)
theorem Vals.rep {xs : List V} {us : List Value} (h : Vals xs us) : ∀ k : Nat, Vals (List.replicate k xs).flatten (List.replicate k us).flatten
  | 0 => .nil
  | k + 1 => by
    rw [List.replicate_succ, List.replicate_succ, List.flatten_cons, List.flatten_cons]
    exact Vals.append h (Vals.rep h k)
theorem erase_last {α : Type} (l : List α) : l.eraseIdx (l.length - 1) = l.dropLast := by
  induction l with
  | nil => rfl
  | cons a r ih =>
    cases r with
    | nil => rfl
    | cons b r =>
      have e : (a :: b :: r).length - 1 = ((b :: r).length - 1) + 1 := by
        have h1 : (a :: b :: r).length = r.length + 2 := rfl
        have h2 : (b :: r).length = r.length + 1 := rfl
        omega
      rw [e, List.eraseIdx_cons_succ, ih]
      all_goals rfl
theorem foldl_rep (its : List Value) : ∀ (k : Nat) (acc : List Value),
    List.foldl (fun x1 x2 => x1 ++ x2) acc.toArray (List.replicate k its.toArray) = (acc ++ (List.replicate k its).flatten).toArray
  | 0, acc => by simp
  | k + 1, acc => by
    have e : acc.toArray ++ its.toArray = (acc ++ its).toArray := by simp
    have e2 : (acc ++ its) ++ (List.replicate k its).flatten = acc ++ (List.replicate (k + 1) its).flatten := by
      rw [List.replicate_succ, List.flatten_cons, List.append_assoc]
    rw [← e2, ← foldl_rep its k (acc ++ its), ← e, List.replicate_succ, List.foldl_cons]
section
variable {X : Cx} {pins : List (Addr × Obj)} {σ : St} {H : Hp} {s : Shared} {l b : Addr} {xs ys zs : List V}
theorem Inv.lset {its its' : List Value} {n : Nat} {f : Array Value → Array Value} {t' : Nat} (I : Inv X pins σ H s) (hH : H l = some (.lst xs))
    (e : s.heap.get? l = some { cls := .type "list", data := .seq its.toArray n }) (hf : f its.toArray = its'.toArray) (hv : Vals ys its') (hz : ys.length ≤ sizeLine) :
    Inv X pins σ (upd H l (.lst ys)) { s with heap := s.heap.update l (Obj.mapSeq f), toks := t' } := by
  have q := PySem.IsL.update e f
  rw [hf] at q
  refine I.write (x := l) (e := l) (by rw [hH]; exact trivial) (.inl rfl) (fun b' u hb hu => (Heap.get?_update_other s.heap (Obj.mapSeq f) (Ne.symm hb)).trans hu) ⟨_, q⟩ ?_
  exact ⟨hz, its', _, hv, q⟩
theorem Inv.lnew {its : List Value} {t' : Nat} (I : Inv X pins σ H s) (hv : Vals ys its) (hz : ys.length ≤ sizeLine) :
    Inv X pins σ (upd H s.heap.objs.size (.lst ys)) { s with heap := s.heap.push { cls := .type "list", data := .seq its.toArray }, toks := t' } :=
  I.laid (fun _ _ q => Heap.get?_push_of_some _ q) (Nat.le_refl _) ⟨hz, its, 0, hv, Heap.get?_push_size _ rfl⟩
theorem Inv.fresh (I : Inv X pins σ H s) : H s.heap.objs.size = none := I.hok.fresh (Nat.le_refl _)
theorem Inv.lstM (I : Inv X pins σ H s) (hH : H l = some (.lst xs)) : xs.length ≤ sizeLine ∧ ∃ (its : List Value) (n : Nat), Vals xs its ∧ xs.length = its.length ∧ s.heap.get? l = some { cls := .type "list", data := .seq its.toArray n } := by
  obtain ⟨z, its, n, r, e⟩ := I.hok l _ hH
  exact ⟨z, its, n, r, r.length, e⟩
theorem notLongL {n : Nat} (h : n ≤ sizeLine) : Builtin.List.listTooLong n = false := by
  unfold Builtin.List.listTooLong
  exact decide_eq_false (by omega)
end
section
variable {X : Cx}
noncomputable def rAppend : V → List V → Hp → VK → Prop := fun x vs H Q => ∃ l xs y, x = .ref l ∧ vs = [y] ∧ H l = some (.lst xs) ∧ xs.length < sizeLine ∧ Q .non (upd H l (.lst (xs ++ [y])))
theorem mt_append : MtM X "list.append" rAppend := by
  intro pins s σ H x vs v us Q I rx rv h
  obtain ⟨l, xs, y, rfl, rfl, hH, hz, q⟩ := h
  cases rx
  obtain ⟨u, rfl, ru⟩ := rv.one
  obtain ⟨z, its, n, r, hl, e⟩ := I.lstM hH
  refine call_meets F.slot_list_append ⟨_, e, rfl⟩ F.entry_list_append (F.args_list_append_2 _ _) (PySem.list_append l its.toArray n u (by rw [List.size_toArray]; omega)) ⟨e, ?_⟩
  refine ⟨.non, _, I.lset (its' := its ++ [u]) hH e (by simp) (r.append (.cons ru .nil)) ?_, rfl, q⟩
  rw [List.length_append, List.length_singleton]
  omega
noncomputable def rExtend : V → List V → Hp → VK → Prop := fun x vs H Q => ∃ l b xs zs, x = .ref l ∧ vs = [.ref b] ∧ H l = some (.lst xs) ∧ H b = some (.lst zs) ∧ xs.length + zs.length ≤ sizeLine ∧ Q .non (upd H l (.lst (xs ++ zs)))
theorem mt_extend : MtM X "list.extend" rExtend := by
  intro pins s σ H x vs v us Q I rx rv h
  obtain ⟨l, b, xs, zs, rfl, rfl, hH, hB, hz, q⟩ := h
  cases rx
  obtain ⟨u, rfl, ru⟩ := rv.one
  cases ru
  obtain ⟨z, its, n, r, hl, e⟩ := I.lstM hH
  obtain ⟨z2, its2, n2, r2, hl2, e2⟩ := I.lstM hB
  have hsz : its.toArray.size + its2.toArray.size ≤ sizeLine := by rw [List.size_toArray, List.size_toArray]; omega
  have hlong : ¬ (!its.toArray.isEmpty && Builtin.List.listTooLong (its.toArray.size + its2.toArray.size)) = true := by
    rw [notLongL hsz, Bool.and_false]
    exact Bool.false_ne_true
  refine call_meets F.slot_list_extend ⟨_, e, rfl⟩ F.entry_list_extend (F.args_list_extend_2 _ _)
    (AutoSeq1.list_extend_list_list_0 l its.toArray n b its2.toArray n2 hlong (by rw [List.size_toArray]; omega) (by omega)) ⟨e, e2, ?_⟩
  refine ⟨.non, _, I.lset (its' := its ++ its2) hH e (by simp) (r.append r2) ?_, rfl, q⟩
  rw [List.length_append]
  omega
noncomputable def rPop : V → List V → Hp → VK → Prop := fun x vs H Q => ∃ l xs y, x = .ref l ∧ vs = [] ∧ H l = some (.lst xs) ∧ xs[xs.length - 1]? = some y ∧ Q y (upd H l (.lst xs.dropLast))
theorem mt_pop : MtM X "list.pop" rPop := by
  intro pins s σ H x vs v us Q I rx rv h
  obtain ⟨l, xs, y, rfl, rfl, hH, hy, q⟩ := h
  cases rx
  have hus := rv.zero
  subst hus
  obtain ⟨z, its, n, r, hl, e⟩ := I.lstM hH
  obtain ⟨u, hu, ru⟩ := r.get hy
  have hy' : its.toArray[its.toArray.size - 1]? = some u := by
    show its.toArray[its.length - 1]? = some u
    rw [← Array.getElem?_toList, ← hl]
    exact hu
  refine call_meets F.slot_list_pop ⟨_, e, rfl⟩ F.entry_list_pop (F.args_list_pop_1 _) (MeetsSeq.list_pop_last l its.toArray n u hy' (by rw [List.size_toArray]; omega)) ⟨e, ?_⟩
  refine ⟨y, _, I.lset (its' := its.dropLast) hH e ?_ r.dropLast ?_, ru, q⟩
  · show its.toArray.eraseIdxIfInBounds (its.toArray.size - 1) = its.dropLast.toArray
    rw [List.size_toArray, List.eraseIdxIfInBounds_toArray, erase_last]
  · rw [List.length_dropLast]
    omega
noncomputable def rCat : R2 := fun x y H Q => ∃ l b xs zs, x = .ref l ∧ y = .ref b ∧ H l = some (.lst xs) ∧ H b = some (.lst zs) ∧ xs.length + zs.length ≤ sizeLine ∧ ∀ p, H p = none → Q (.ref p) (upd H p (.lst (xs ++ zs)))
theorem op_cat : OpR X (binaryOp .Add) rCat := by
  intro pins s σ H x y v u Q I rx ry h
  obtain ⟨l, b, xs, zs, rfl, rfl, hH, hB, hz, q⟩ := h
  cases rx
  cases ry
  obtain ⟨z, its, n, r, hl, e⟩ := I.lstM hH
  obtain ⟨z2, its2, n2, r2, hl2, e2⟩ := I.lstM hB
  refine PySem.P.add_list e e2 ?_ (by rw [List.size_toArray, List.size_toArray]; omega)
  have ea : its.toArray ++ its2.toArray = (its ++ its2).toArray := by simp
  rw [ea]
  exact ⟨.ref _, _, I.lnew (t' := s.toks) (r.append r2) (by rw [List.length_append]; omega), rfl, q _ I.fresh⟩
noncomputable def rRep : R2 := fun x y H Q => ∃ l k xs, x = .ref l ∧ y = .int k ∧ H l = some (.lst xs) ∧ -(2 ^ 63) ≤ k ∧ k < 2 ^ 63 ∧ xs.length * k.toNat ≤ sizeLine ∧
  ∀ p, H p = none → Q (.ref p) (upd H p (.lst (List.replicate k.toNat xs).flatten))
theorem len_rep {α : Type} (xs : List α) (k : Nat) : (List.replicate k xs).flatten.length = k * xs.length := by
  induction k with
  | zero => simp
  | succ k ih => rw [List.replicate_succ, List.flatten_cons, List.length_append, ih, Nat.succ_mul, Nat.add_comm]
theorem op_rep : OpR X (binaryOp .Mult) rRep := by
  intro pins s σ H x y v u Q I rx ry h
  obtain ⟨l, k, xs, rfl, rfl, hH, h1, h2, hz, q⟩ := h
  cases rx
  obtain ⟨t, rfl⟩ := ry
  obtain ⟨z, its, n, r, hl, e⟩ := I.lstM hH
  have hlen : its.toArray.size * k.toNat ≤ sizeLine := by rw [List.size_toArray, ← hl]; exact hz
  have hcap : ¬ its.toArray.size * k.toNat > (2 ^ 63 - 1) / 8 := by
    have : (sizeLine : Nat) ≤ (2 ^ 63 - 1) / 8 := by decide
    omega
  have hfit : ¬ (!Builtin.List.listFitsIndex k) = true := by
    rw [fitsIndex_both h1 h2]
    exact Bool.false_ne_true
  have hlong : ¬ Builtin.List.listTooLong (its.toArray.size * k.toNat) = true := by
    rw [notLongL hlen]
    exact Bool.false_ne_true
  have hnew : List.foldl (fun x1 x2 => x1 ++ x2) #[] (List.replicate (if its.toArray.isEmpty = true then 0 else k.toNat) its.toArray) = (List.replicate k.toNat its).flatten.toArray := by
    have f0 : ∀ m : Nat, List.foldl (fun x1 x2 => x1 ++ x2) #[] (List.replicate m its.toArray) = (List.replicate m its).flatten.toArray := fun m => by
      have := foldl_rep its m []
      rw [List.nil_append] at this
      exact this
    rw [f0]
    cases its with
    | nil => simp
    | cons a r' => rw [if_neg (by simp)]
  refine wpAny_binaryOp_repeat_ref (T := "list") (U := "int") (by decide) ⟨_, e, rfl⟩ (fun s' => typeIs_int s' k t) noFill_list_mul F.fills_int_mul F.slot_int_rmul repeat_list F.slot_int_index.lookup
    (call_meets F.slot_int_rmul (typeIs_int s k t) F.entry_int_rmul (F.args_int_rmul_2 _ _) (int___rmul___int_list k t l its.toArray n)
      ⟨e, rfl, ⟨_, e, rfl⟩, call_meets F.slot_list_mul ⟨_, e, rfl⟩ F.entry_list_mul (F.args_list_mul_2 _ _) (AutoListH.list___mul___list_int_3 l its.toArray n k t hfit hcap hlong) ⟨e, ?_⟩⟩)
  rw [hnew]
  exact ⟨.ref _, _, I.lnew (t' := s.toks) (r.rep k.toNat) (by rw [len_rep, Nat.mul_comm]; exact hz), rfl, q _ I.fresh⟩
end
section
variable {prog : Program} {w : World} {A : Around} {E : Value → Shared → Prop} {s : Shared}
end
section
variable {X : Cx}
end
end L2
namespace L2
open PySem PySem.Spec PyProof.Rows
section
variable {κ : Type} [DecidableEq κ]
noncomputable def valV (kvs : List (κ × V)) (k : κ) : Option V := (kvs.find? fun kv => decide (kv.1 = k)).map (·.2)
noncomputable def putK (kvs : List (κ × V)) (k : κ) (v : V) : List (κ × V) :=
  if (kvs.any fun kv => decide (kv.1 = k)) = true then kvs.map (fun kv => if kv.1 = k then (kv.1, v) else kv) else kvs ++ [(k, v)]
theorem valV_pos {p : κ × V} {r : List (κ × V)} {k : κ} (e : p.1 = k) : valV (p :: r) k = some p.2 := by simp [valV, List.find?_cons, e]
theorem valV_neg {p : κ × V} {r : List (κ × V)} {k : κ} (e : ¬ p.1 = k) : valV (p :: r) k = valV r k := by simp [valV, List.find?_cons, e]
theorem valV_any (k : κ) : ∀ kvs : List (κ × V), (kvs.any fun kv => decide (kv.1 = k)) = (valV kvs k).isSome
  | [] => rfl
  | p :: r => by
    rw [List.any_cons]
    by_cases e : p.1 = k
    · simp only [valV_pos e, decide_eq_true e, Bool.true_or, Option.isSome_some]
    · rw [valV_neg e, decide_eq_false e, Bool.false_or]; exact valV_any k r
theorem length_putK (kvs : List (κ × V)) (k : κ) (v : V) : (putK kvs k v).length ≤ kvs.length + 1 := by
  unfold putK
  split
  · rw [List.length_map]; omega
  · rw [List.length_append, List.length_cons, List.length_nil]; omega
theorem putK_new {kvs : List (κ × V)} {k : κ} (v : V) (h : valV kvs k = none) : putK kvs k v = kvs ++ [(k, v)] := by
  unfold putK
  rw [valV_any, h]
  exact if_neg (by decide)
theorem RelO.isSome_eq {o : Option V} {u : Option Value} (r : RelO o u) : o.isSome = u.isSome := by
  cases o with
  | none => cases u with
    | none => rfl
    | some _ => exact (show False from r).elim
  | some _ => cases u with
    | none => exact (show False from r).elim
    | some _ => rfl
theorem RelO.getD {o : Option V} {u : Option Value} {d : V} {d' : Value} (r : RelO o u) (rd : RelV d d') : RelV (o.getD d) (u.getD d') := by
  cases o with
  | none => cases u with
    | none => exact rd
    | some _ => exact (show False from r).elim
  | some _ => cases u with
    | none => exact (show False from r).elim
    | some _ => exact r
theorem KV.val {kvs : List (κ × V)} {vs : List (κ × Value)} (r : KV kvs vs) (k : κ) : RelO (valV kvs k) (valueAt vs k) := by
  unfold KV at r
  induction r with
  | nil => exact True.intro
  | @cons p q ps qs h t ih =>
    obtain ⟨h1, h2⟩ := h
    by_cases e : p.1 = k
    · have e' : q.1 = k := h1.symm.trans e
      have b : valueAt (q :: qs) k = some q.2 := by simp [valueAt, List.find?_cons, e']
      rw [valV_pos e, b]; exact h2
    · have e' : ¬ q.1 = k := fun z => e (h1.trans z)
      have b : valueAt (q :: qs) k = valueAt qs k := by simp [valueAt, List.find?_cons, e']
      rw [valV_neg e, b]; exact ih
theorem KV.any {kvs : List (κ × V)} {vs : List (κ × Value)} (r : KV kvs vs) (k : κ) : (kvs.any fun kv => decide (kv.1 = k)) = vs.any fun kv => decide (kv.1 = k) := by
  unfold KV at r
  induction r with
  | nil => rfl
  | cons h t ih => rw [List.any_cons, List.any_cons, ih, h.1]
theorem KV.repl {kvs : List (κ × V)} {vs : List (κ × Value)} (r : KV kvs vs) (k : κ) {y : V} {u : Value} (ry : RelV y u) :
    KV (kvs.map fun kv => if kv.1 = k then (kv.1, y) else kv) (vs.map fun kv => if kv.1 = k then (kv.1, u) else kv) := by
  unfold KV at r ⊢
  induction r with
  | nil => exact .nil
  | @cons p q ps qs h t ih =>
    rw [List.map_cons, List.map_cons]
    refine .cons ?_ ih
    obtain ⟨h1, h2⟩ := h
    by_cases e : p.1 = k
    · rw [if_pos e, if_pos (h1.symm.trans e)]; exact ⟨h1, ry⟩
    · rw [if_neg e, if_neg (fun z => e (h1.trans z))]; exact ⟨h1, h2⟩
theorem KV.put {kvs : List (κ × V)} {vs : List (κ × Value)} (r : KV kvs vs) (k : κ) {y : V} {u : Value} (ry : RelV y u) : KV (putK kvs k y) (stored vs k u) := by
  unfold putK stored
  rw [r.any k]
  by_cases e : (vs.any fun kv => decide (kv.1 = k)) = true
  · rw [if_pos e, if_pos e]; exact r.repl k ry
  · rw [if_neg e, if_neg e]; exact Paired.snoc r ⟨rfl, ry⟩
theorem KV.keys {kvs : List (κ × V)} {vs : List (κ × Value)} (r : KV kvs vs) : kvs.map (·.1) = vs.map (·.1) := by
  unfold KV at r
  induction r with
  | nil => rfl
  | cons h t ih => rw [List.map_cons, List.map_cons, ih, h.1]
end
theorem kV_is {P : Program} {w : World} {k : Key} {u : Value} (r : RelV (kV k) u) : (mixKind P w).is k u = true := by
  cases k with
  | inl i => obtain ⟨t, e⟩ := (show ∃ t, u = Value.int i t from r); subst e; exact mixKind_int P w i t
  | inr x => obtain ⟨t, e⟩ := (show ∃ t, u = Value.str x t from r); subst e; exact mixKind_str P w x t
theorem items_are {P : Program} {w : World} : ∀ {ks : List Key} {us : List Value}, Vals (ks.map kV) us → ItemsAre (mixKind P w) ks us
  | [], _, r => by rw [List.map_nil] at r; cases r; exact .nil
  | k :: ks, _, r => by
    rw [List.map_cons] at r
    cases r with
    | cons h t => exact .cons (kV_is h) (items_are t)
noncomputable abbrev KT (H : Hp) : List (List Key × V) → List (List Key × Addr × Value) → Prop := Paired fun p q => p.1 = q.1 ∧ H q.2.1 = some (.tup (p.1.map kV)) ∧ RelV p.2 q.2.2
theorem KT.val {H : Hp} {kvs : List (List Key × V)} {xs : List (List Key × Addr × Value)} (r : KT H kvs xs) (k : List Key) : RelO (valV kvs k) ((atKey xs k).map (·.2)) := by
  induction r with
  | nil => exact True.intro
  | @cons p q ps qs h t ih =>
    obtain ⟨h1, _, h2⟩ := h
    by_cases e : p.1 = k
    · have e' : q.1 = k := h1.symm.trans e
      have b : atKey (q :: qs) k = some q.2 := by simp [atKey, List.find?_cons, e']
      rw [valV_pos e, b]; exact h2
    · have e' : ¬ q.1 = k := fun z => e (h1.trans z)
      have b : atKey (q :: qs) k = atKey qs k := by simp [atKey, List.find?_cons, e']
      rw [valV_neg e, b]; exact ih
section
variable {P : Program} {w : World} {H : Hp} {h : Heap} {a : Addr}
theorem rd_of {u : HO} (ok : HOk P w H h) (e : Rd H a u) : ObjOk P w H h a u := e.ok ok
theorem dk_rd {kvs : List (Key × V)} (ok : HOk P w H h) (e : Rd H a (.dK kvs)) : kvs.length ≤ sizeLine ∧ (a == sysModules) = false ∧ ∃ vs, KV kvs vs ∧ h.DictOf (mixKind P w) a vs :=
  show ObjOk P w H h a (.dK kvs) from rd_of ok e
theorem dk_of {kvs : List (Key × V)} (ok : HOk P w H h) (e : H a = some (.dK kvs)) : kvs.length ≤ sizeLine ∧ (a == sysModules) = false ∧ ∃ vs, KV kvs vs ∧ h.DictOf (mixKind P w) a vs := dk_rd ok (.inl e)
theorem key_of {ks : List Key} (ok : HOk P w H h) (e : H a = some (.tup (ks.map kV))) : (tupleKind (mixKind P w)).is h ks a := by
  obtain ⟨_, its, r, o, h1, h2, n, h3⟩ := (show ObjOk P w H h a (.tup (ks.map kV)) from ok a _ e)
  exact ⟨o, its.toArray, n, h1, h2, h3, by simpa using items_are r⟩
theorem dt_rd {kvs : List (List Key × V)} (ok : HOk P w H h) (e : Rd H a (.dT kvs)) : kvs.length ≤ sizeLine ∧ (a == sysModules) = false ∧
    ∃ xs, KT H kvs xs ∧ h.DictOfH (tupleKind (mixKind P w)) a xs := by
  obtain ⟨z, y, xs, r, o, es, ep, h1, h2, h3, h4, h5⟩ := (show ObjOk P w H h a (.dT kvs) from rd_of ok e)
  refine ⟨z, y, xs, r, o, es, ep, h1, h2, h3, h4, fun x hx => ?_, h5⟩
  have all : ∀ {l : List (List Key × V)} {m : List (List Key × Addr × Value)}, KT H l m → ∀ x ∈ m, (tupleKind (mixKind P w)).is h x.1 x.2.1 := by
    intro l m q
    induction q with
    | nil => intro x hx; exact nomatch hx
    | @cons p q ps qs hq t ih =>
      intro x hx
      rcases List.mem_cons.mp hx with e | hx
      · subst e
        exact key_of ok (by rw [← hq.1]; exact hq.2.1)
      · exact ih x hx
  exact all r x hx
end
noncomputable def DGet (H : Hp) (a : Addr) (y : V) (r : Option V) : Prop :=
  (∃ kvs k, Rd H a (.dK kvs) ∧ y = kV k ∧ r = valV kvs k) ∨ ∃ kvs k b, Rd H a (.dT kvs) ∧ y = .ref b ∧ H b = some (.tup (k.map kV)) ∧ r = valV kvs k
theorem DGet.k {H : Hp} {a : Addr} {kvs : List (Key × V)} {k : Key} (e : H a = some (.dK kvs)) : DGet H a (kV k) (valV kvs k) := .inl ⟨kvs, k, .inl e, rfl, rfl⟩
section
variable {X : Cx} {pins : List (Addr × Obj)} {σ : St} {H : Hp} {s : Shared} {a : Addr} {y v : V} {u r : Value} {o : Option V} {A : Around} {E : Value → Shared → Prop}
theorem Inv.big (I : Inv X pins σ H s) : sysModules < s.heap.objs.size := by
  have h : mainGlobals < s.heap.objs.size := (I.mod.glob.keeps I.bk).lt
  exact Nat.lt_trans (by decide) h
theorem d_getItem {Q : Value → Shared → Prop} (hu : A.units + 1 < cLine) (I : Inv X pins σ H s) (g : DGet H a y (some v)) (ry : RelV y u) (h : ∀ w' s', Inv X pins σ H s' → RelV v w' → Q w' s') :
    wpAny (model X.prog X.w) A (getItem (.ref a) u) Q E s := by
  rcases g with ⟨kvs, k, e, ey, l⟩ | ⟨kvs, k, b, e, ey, eb, l⟩
  · subst ey
    obtain ⟨z, hd, vs, rel, dd⟩ := dk_rd I.hok e
    obtain ⟨w', hw, rw'⟩ := RelO.some_of (v := v) (o := valueAt vs k) (by rw [l]; exact rel.val k)
    exact wpAny_getItem_of (kV_is ry) dd.mapOf hw (h w' _ (I.tok _) rw')
  · subst ey
    cases (show u = Value.ref b from ry)
    obtain ⟨z, hd, xs, rel, dd⟩ := dt_rd I.hok e
    obtain ⟨w', hw, rw'⟩ := RelO.some_of (v := v) (o := (atKey xs k).map (·.2)) (by rw [l]; exact rel.val k)
    obtain ⟨p, hp, hp2⟩ := Option.map_eq_some_iff.mp hw
    refine wpAny_getItem_heap (tupleKind_room_in1 hu) (key_of I.hok eb) dd hp ?_
    rw [hp2]
    exact h w' _ (I.tok _) rw'
theorem d_write {h' : Heap} {t' : Nat} {ob : HO} (I : Inv X pins σ H s) (mu : Mut (H a)) (hs : Heap.SameBut a s.heap h') (he : ∃ q, h'.get? a = some q) (new : ObjOk X.prog X.w (upd H a ob) h' a ob) :
    Inv X pins σ (upd H a ob) { s with heap := h', toks := t' } :=
  I.write (x := a) (e := a) mu (.inl rfl) (fun b q hb z => (hs.2 b hb).trans z) he new
theorem dk_new {P : Program} {w : World} {H' : Hp} {h' : Heap} {kvs : List (Key × V)} {vs : List (Key × Value)} (z : kvs.length ≤ sizeLine) (hd : (a == sysModules) = false) (rel : KV kvs vs) (dd : h'.DictOf (mixKind P w) a vs) :
    ObjOk P w H' h' a (.dK kvs) := ⟨z, hd, vs, rel, dd⟩
end
section
variable {X : Cx} {pins : List (Addr × Obj)} {σ : St} {H : Hp} {s : Shared} {a : Addr} {kvs : List (Key × V)} {k : Key} {u : Value} {A : Around} {E : Value → Shared → Prop}
end
noncomputable def NoSl (i : Expr) : Prop := ∀ ov iv, subscripted i false ov iv = operate [ov, iv] (getItem ov iv)
theorem subD_of {prog : Program} {w : World} {A : Around} {E : Value → Shared → Prop} {s : Shared} {env : Env} {value slice : Expr} {pos : Pos} {T id : String} {Q : Value → Shared → Prop}
    (hl : typeLookup (.type T) "__getitem__" = pure (some (.builtin id))) (hs : NoSl slice)
    (h : wpAny (model prog w) A (eval value env) (fun o s₁ => wpAny (model prog w) A (eval slice env) (fun i s₂ => s₂.TypeIs o T ∧ wpAny (model prog w) A (getItem o i) Q E s₂) E s₁) E s) :
    wpAny (model prog w) A (eval (.Subscript value slice pos) env) Q E s := by
  refine Subscript_ (wpAny_mono h (fun o s₁ h₁ => wpAny_mono h₁ (fun i s₂ h₂ => ?_) fun _ _ x => x) fun _ _ x => x)
  obtain ⟨hT, h₂⟩ := h₂
  unfold subscriptTail
  refine wpAny_bind ?_
  rw [getitemInPython_of_ne hT.not_modules]
  refine wpAny_bind (wpAny_specialOf hT hl ?_)
  have fin : wpAny (model prog w) A (subscripted slice false o i) (fun r s₃ => wpAny (model prog w) A (letTemporaryGo value o r >>= fun _ => pure r) Q E s₃) E s₂ := by
    rw [hs o i]
    exact wpAny_operating (wpAny_mono h₂ (fun r s₃ h₃ => wpAny_bind (wpAny_letTemporaryGo (wpAny_pure h₃))) fun _ _ x => x)
  first
    | exact wpAny_pure (wpAny_bind fin)
    | exact wpAny_bind (wpAny_pure (wpAny_bind fin))
    | exact wpAny_bind fin
theorem dict_typeIs {X : Cx} {pins : List (Addr × Obj)} {σ : St} {H : Hp} {s : Shared} {a : Addr} {y : V} {o : Option V} (I : Inv X pins σ H s) (g : DGet H a y o) : s.TypeIs (.ref a) "dict" := by
  rcases g with ⟨kvs, k, e, _, _⟩ | ⟨kvs, k, b, e, _, _, _⟩
  · obtain ⟨_, _, vs, _, dd⟩ := dk_rd I.hok e
    exact dd.typeIs
  · obtain ⟨_, _, xs, _, dd⟩ := dt_rd I.hok e
    exact dd.typeIs
noncomputable def tDGet (td ty : TE) : TE := fun σ H Q => td σ H fun x H1 => ty σ H1 fun y H2 => ∃ a v, x = .ref a ∧ DGet H2 a y (some v) ∧ Q v H2
section
variable {X : Cx} {o i e value : Expr} {pos pos' tpos : Pos} {td ty tv : TE}
theorem pe_dget (hu : X.A.units + 1 < cLine) (ho : PE X o td) (hi : PE X i ty) (hs : NoSl i) : PE X (.Subscript o i pos) (tDGet td ty) := by
  intro pins s σ H Q I h
  refine subD_of PySem.F.slot_dict_getitem.lookup hs (thn (ho pins s σ H _ I h) fun u s1 ⟨x, H1, I1, rx, q1⟩ => thn (hi pins s1 σ H1 _ I1 q1) fun iv s2 ⟨y, H2, I2, ry, a, v, ex, g, q2⟩ => ?_)
  subst ex
  obtain rfl : u = Value.ref a := rx
  exact ⟨dict_typeIs I2 g, d_getItem hu I2 g ry fun w' s3 I3 rw' => ⟨v, H2, I3, rw', q2⟩⟩
end
theorem dk_empty {P : Program} {w : World} {H : Hp} (h : Heap) (hb : sysModules < h.objs.size) : ObjOk P w H (h.push { cls := .type "dict", data := .dict #[] }) h.objs.size (.dK []) :=
  ⟨Nat.zero_le _, beq_eq_false_iff_ne.mpr (Ne.symm (Nat.ne_of_lt hb)), [], .nil, Heap.DictOf.new h⟩
section
variable {X : Cx} {pos : Pos}
end
noncomputable def tPairs : List (TE × TE) → St → Hp → (List (V × V) → Hp → Prop) → Prop
  | [], _, H, Q => Q [] H
  | (tk, tv) :: r, σ, H, Q => tk σ H fun x H1 => tv σ H1 fun y H2 => tPairs r σ H2 fun ps H3 => Q ((x, y) :: ps) H3
noncomputable abbrev VV : List (V × V) → List (Value × Value) → Prop := Paired fun p q => RelV p.1 q.1 ∧ RelV p.2 q.2
noncomputable def PPs (X : Cx) (pos : Pos) (keys : List (Option Expr)) (values : List Expr) (trs : List (TE × TE)) : Prop :=
  ∀ (pins : List (Addr × Obj)) (s : Shared) (σ : St) (H : Hp) (Q : List (V × V) → Hp → Prop), Inv X pins σ H s → tPairs trs σ H Q →
    wpAny (model X.prog X.w) X.A (evalPairs (pairTrees keys values X.env pos)) (fun vs s' => ∃ ps H', Inv X pins σ H' s' ∧ VV ps vs ∧ Q ps H') X.xe s
theorem pps_nil {X : Cx} {pos : Pos} : PPs X pos [] [] [] := fun pins s σ H Q I h => pairTrees_nil_walk ⟨[], H, I, .nil, h⟩
theorem pps_cons {X : Cx} {pos : Pos} {k v : Expr} {ks : List (Option Expr)} {vs : List Expr} {tk tv : TE} {trs : List (TE × TE)} (hk : PE X k tk) (hv : PE X v tv) (hr : PPs X pos ks vs trs) :
    PPs X pos (some k :: ks) (v :: vs) ((tk, tv) :: trs) := fun pins s σ H Q I h =>
  pairTrees_cons_walk (thn (hk pins s σ H _ I h) fun u s1 ⟨x, H1, I1, rx, q1⟩ => thn (hv pins s1 σ H1 _ I1 q1) fun w2 s2 ⟨y, H2, I2, ry, q2⟩ =>
    thn (hr pins s2 σ H2 _ I2 q2) fun ws s3 ⟨ps, H3, I3, rel, q3⟩ => ⟨(x, y) :: ps, H3, I3, .cons ⟨rx, ry⟩ rel, q3⟩)
noncomputable def mergeK (kvs more : List (Key × V)) : List (Key × V) := more.foldl (fun acc kv => putK acc kv.1 kv.2) kvs
theorem KV.merge : ∀ {more : List (Key × V)} {rs : List (Key × Value)} {kvs : List (Key × V)} {vs : List (Key × Value)}, KV more rs → KV kvs vs → KV (mergeK kvs more) (merged vs rs) := by
  intro more rs kvs vs r
  unfold KV at r
  induction r generalizing kvs vs with
  | nil => intro q; exact q
  | @cons p q ps qs h t ih =>
    intro r0
    have e : KV (putK kvs p.1 p.2) (stored vs q.1 q.2) := by
      have := r0.put p.1 h.2
      rw [← h.1]; exact this
    exact ih e
theorem length_mergeK : ∀ (more kvs : List (Key × V)), (mergeK kvs more).length ≤ kvs.length + more.length
  | [], kvs => by show kvs.length ≤ kvs.length + 0; omega
  | p :: r, kvs => by
    have h1 := length_mergeK r (putK kvs p.1 p.2)
    have h2 := length_putK kvs p.1 p.2
    show (mergeK (putK kvs p.1 p.2) r).length ≤ _
    rw [List.length_cons]; omega
theorem carries_of {P : Program} {w : World} : ∀ {kvs : List (Key × V)} {ws : List (Value × Value)}, VV (kvs.map fun kv => (kV kv.1, kv.2)) ws → ∃ rs, Carries (mixKind P w) ws rs ∧ KV kvs rs
  | [], _, r => by rw [List.map_nil] at r; cases r; exact ⟨[], True.intro, .nil⟩
  | p :: kvs, _, r => by
    rw [List.map_cons] at r
    cases r with
    | @cons a b as bs h t =>
      obtain ⟨rs, c, q⟩ := carries_of (P := P) (w := w) t
      obtain ⟨b1, b2⟩ := b
      exact ⟨(p.1, b2) :: rs, ⟨kV_is h.1, rfl, c⟩, .cons ⟨rfl, h.2⟩ q⟩
noncomputable def tDisp (trs : List (TE × TE)) : TE := fun σ H Q => ∀ p, H p = none → tPairs trs σ (upd H p (.dK [])) fun ps H2 => H2 p = some (.dK []) ∧ ∃ kvs : List (Key × V), ps = kvs.map (fun kv => (kV kv.1, kv.2)) ∧ kvs.length ≤ 15 ∧ Q (.ref p) (upd H2 p (.dK (mergeK [] kvs)))
theorem pe_disp {X : Cx} {pos : Pos} {keys : List (Option Expr)} {values : List Expr} {trs : List (TE × TE)} (h : PPs X pos keys values trs) (hall : keys.all (·.isSome) = true) (hl : keys.length = values.length) (h0 : keys ≠ [])
    (h15 : keys.length ≤ 15) : PE X (.Dict keys values pos) (tDisp trs) := by
  intro pins s σ H Q I q
  have hn := I.hok.fresh (Nat.le_refl s.heap.objs.size)
  have I1 := I.laid (a := s.heap.objs.size) (o := .dK []) (h' := s.heap.push { cls := .type "dict", data := .dict #[] }) (t' := s.toks) (fun _ _ q => Heap.get?_push_of_some _ q) (Nat.le_refl _) (dk_empty s.heap I.big)
  refine wpAny_Dict_walk (knd := mixKind X.prog X.w) hall hl h0 h15 (thn (h pins _ σ _ _ I1 (q _ hn)) fun ws s2 ⟨ps, H2, I2, rel, e, kvs, ep, lk, q2⟩ => ?_)
  subst ep
  obtain ⟨rs, c, rk⟩ := carries_of (P := X.prog) (w := X.w) rel
  obtain ⟨z, hd, vs0, r0, dd⟩ := dk_of I2.hok e
  cases r0
  refine ⟨rs, c, dd, fun h' dd' hs => ⟨.ref s.heap.objs.size, _, ?_, rfl, q2⟩⟩
  have hz : (mergeK [] kvs).length ≤ sizeLine := by
    have h1 := length_mergeK kvs []
    rw [List.length_nil] at h1
    rw [sizeLine_eq]; omega
  have he : ∃ q, h'.get? s.heap.objs.size = some q := let ⟨q, _, _, hq, _⟩ := dd'; ⟨q, hq⟩
  exact d_write I2 (by rw [e]; exact True.intro) hs he (dk_new hz hd (rk.merge .nil) dd')
structure M1 (X : Cx) (o : Expr) (m : Str) (apos : Pos) (e : Expr) (cpos : Pos) : Prop where
  base : attributeBase o m X.env (eval o X.env) = eval o X.env
  few : ((backTo cpos (starEach [e] X.env)).all (fun x => !x.1) && (backToKw cpos (keywordEach [] X.env)).all (fun x => x.1.isSome)
    && decide (([e] : List Expr).length + ([] : List Keyword).length + (if ([] : List Keyword).isEmpty then 0 else 1) < 30)) = true
  line : (apos.endLine == cpos.line) = true
  trees : backTo cpos (starEach [e] X.env) = [(false, eval e X.env)]
structure M2 (X : Cx) (o : Expr) (m : Str) (apos : Pos) (e f : Expr) (cpos : Pos) : Prop where
  base : attributeBase o m X.env (eval o X.env) = eval o X.env
  few : ((backTo cpos (starEach [e, f] X.env)).all (fun x => !x.1) && (backToKw cpos (keywordEach [] X.env)).all (fun x => x.1.isSome)
    && decide (([e, f] : List Expr).length + ([] : List Keyword).length + (if ([] : List Keyword).isEmpty then 0 else 1) < 30)) = true
  line : (apos.endLine == cpos.line) = true
  trees : backTo cpos (starEach [e, f] X.env) = [(false, eval e X.env), (false, eval f X.env)]
noncomputable def IsD (H : Hp) (a : Addr) : Prop := (∃ kvs, Rd H a (.dK kvs)) ∨ ∃ kvs, Rd H a (.dT kvs)
theorem isD_at {X : Cx} {pins : List (Addr × Obj)} {σ : St} {H : Hp} {s : Shared} {a : Addr} (I : Inv X pins σ H s) (d : IsD H a) :
    s.TypeIs (.ref a) "dict" ∧ (∀ b, Value.ref a = .ref b → ∃ ob, s.heap.get? b = some ob ∧ ob.dict = none) ∧ (a == sysModules) = false := by
  rcases d with ⟨kvs, e⟩ | ⟨kvs, e⟩
  · obtain ⟨_, hd, vs, _, dd⟩ := dk_rd I.hok e
    refine ⟨dd.typeIs, fun b q => ?_, hd⟩
    cases q
    obtain ⟨ob, _, _, h1, h2, _⟩ := dd
    exact ⟨ob, h1, h2.2.1⟩
  · obtain ⟨_, hd, xs, _, dd⟩ := dt_rd I.hok e
    refine ⟨dd.typeIs, fun b q => ?_, hd⟩
    cases q
    obtain ⟨ob, _, _, h1, h2, _⟩ := dd
    exact ⟨ob, h1, h2.2.1⟩
section
variable {X : Cx} {pins : List (Addr × Obj)} {σ : St} {H : Hp} {s : Shared} {a : Addr} {y d : V} {u r : Value} {o : Option V} {A : Around} {E : Value → Shared → Prop}
theorem d_get1 {Q : Value → Shared → Prop} (hu : A.units + 1 < cLine) (I : Inv X pins σ H s) (g : DGet H a y o) (ry : RelV y u) (h : ∀ w' s', Inv X pins σ H s' → RelV (o.getD .non) w' → Q w' s') :
    wpAny (model X.prog X.w) A (call (.builtin "dict.get") [.ref a, u]) Q E s := by
  rcases g with ⟨kvs, k, e, ey, l⟩ | ⟨kvs, k, b, e, ey, eb, l⟩
  · subst ey
    obtain ⟨z, hd, vs, rel, dd⟩ := dk_rd I.hok e
    refine call_meetsIn PySem.F.slot_dict_get dd.typeIs PySem.F.entry_dict_get (PySem.F.args_dict_get_2 _ _) (meets_dict_get (mixKind X.prog X.w) a (kV_is ry) hd) ⟨_, dd.mapOf, h _ _ (I.tok _) ?_⟩
    rw [l]
    exact (rel.val k).getD rfl
  · subst ey
    cases (show u = Value.ref b from ry)
    obtain ⟨z, hd, xs, rel, dd⟩ := dt_rd I.hok e
    refine call_meetsIn PySem.F.slot_dict_get dd.typeIs PySem.F.entry_dict_get (PySem.F.args_dict_get_2 _ _) (meetsH_dict_get (tupleKind (mixKind X.prog X.w)) a b hd) ⟨tupleKind_room_in1 hu, k, xs, key_of I.hok eb, dd, h _ _ (I.tok _) ?_⟩
    rw [l]
    exact (rel.val k).getD rfl
end
noncomputable def tDGet1 (td ty : TE) : TE := fun σ H Q => td σ H fun x H1 => ∃ a, x = .ref a ∧ IsD H1 a ∧ ty σ H1 fun y H2 => ∃ o, DGet H2 a y o ∧ Q (o.getD .non) H2
section
variable {X : Cx} {o e f : Expr} {apos cpos : Pos} {td ty tx : TE}
theorem pe_dget1 (hu : X.A.units + 1 < cLine) (ho : PE X o td) (he : PE X e ty) (m : M1 X o "get" apos e cpos) : PE X (.Call (.Attribute o "get" apos) [e] [] cpos) (tDGet1 td ty) := by
  intro pins s σ H Q I h
  refine wpAny_Call_method m.base m.few m.line PySem.F.plainAttrs_dict PySem.F.slot_dict_get PySem.F.type_dict_get (thn (ho pins s σ H _ I h) fun u s1 ⟨x, H1, I1, rx, a, ex, d, q1⟩ => ?_)
  subst ex
  obtain rfl : u = Value.ref a := rx
  obtain ⟨t1, t2, _⟩ := isD_at I1 d
  refine ⟨t1, t2, ?_⟩
  rw [m.trees]
  refine Calls.callWith_builtin rfl (Calls.evalArgs_plain (Calls.spliced_cons (thn (he pins s1 σ H1 _ I1 q1) fun iv s2 ⟨y, H2, I2, ry, ov, g, q2⟩ => Calls.spliced_nil ?_)))
  exact d_get1 hu I2 g ry fun w' s3 I3 rw' => ⟨_, H2, I3, rw', q2⟩
end
section
variable {X : Cx} {pins : List (Addr × Obj)} {σ : St} {H : Hp} {s : Shared} {a : Addr} {kvs : List (Key × V)} {A : Around} {E : Value → Shared → Prop}
end
section
variable {X : Cx} {pins : List (Addr × Obj)} {σ : St} {H : Hp} {s : Shared} {a : Addr} {y : V} {u : Value} {A : Around} {E : Value → Shared → Prop}
end
end L2
namespace Att
open PySem PySem.W PySem.Calls PyProof.Rows
theorem ints_of_wellAll {P : Params} {h : Heap} : ∀ (ns : List Int) (vs : List Value), WellAll P h vs (ns.map WData.int) → IntsAre vs ns := by
  intro ns
  induction ns with
  | nil =>
    intro vs w
    rw [List.map_nil] at w
    cases w
    exact .nil
  | cons n ns ih =>
    intro vs w
    rw [List.map_cons] at w
    cases w with
    | cons a b =>
      cases a
      exact .cons _ _ (ih _ b)
theorem script_of {l : OpenLaw} {n : Nat} (hn : l.most = some n) {P : Params} {h : Heap} {args : List WData} {vals : List Value}
    (hpre : l.row.toRowW.claim.pre args = true) (hwl : WellAll P h vals args) :
    ∃ a vs ns, vals = [Value.ref a] ∧ args = [WData.list (ns.map WData.int)] ∧ h.get? a = some { cls := .type "list", data := .seq vs.toArray } ∧ IntsAre vs ns ∧ ns.length ≤ n := by
  have hsh : WShape.hasAll [] args [.list .int] = true := (pre_splitW hpre).1
  have hc : l.pre.holds [] { args := args } = true := (pre_splitW hpre).2
  obtain ⟨d, r, rfl, h1, h2⟩ := hasAllW_cons hsh
  obtain rfl := hasAllW_nil h2
  obtain ⟨xs, rfl, h3⟩ := hasW_list h1
  obtain ⟨ns, rfl⟩ := items_int h3
  have hlen : ns.length ≤ n := by
    unfold OpenLaw.pre at hc
    have h4 : (WTm.not (.lt (.lit (.int (n : Int))) (.len (.arg 0)))).holds [] { args := [.list (ns.map .int)] } = true := by
      have h4 := (holds_andW hc).1
      rw [hn] at h4
      exact h4
    have h5 := condW_of h4 (w_not (w_lt w_lit (w_len_list (w_arg rfl))))
    rw [List.length_map] at h5
    refine Nat.le_of_not_lt fun q => ?_
    have q' : (n : Int) < ((ns.length : Nat) : Int) := by omega
    first
      | (rw [decide_eq_true q'] at h5; exact absurd h5 (by decide))
      | (simp at h5; omega)
  cases hwl with
  | cons w1 w2 =>
    cases w2
    cases w1 with
    | list ho hall => exact ⟨_, _, ns, rfl, rfl, ho, ints_of_wellAll ns _ hall, hlen⟩
theorem post_true (l : OpenLaw) (args : List WData) : l.row.toRowW.claim.post args (.bool true) args = true :=
  postW_of (r := l.row.toRowW) (X := (true == true))
    (show WShape.has [] (.bool true) .bool = true by first | rfl | decide | simp [WShape.has, WShape.arms, WShape.armsAll])
    (show (WTm.eq .res (.lit (.bool true))).value [] { args := args, res := some (.bool true), after := args } = some (.bool (true == true)) from w_eq_bool (w_res rfl) w_lit) rfl
theorem attach_call {l : OpenLaw} {n : Nat} {q : Program} {loose : List Str} {XP : (Str → Option Value) → Heap → Prop} {YP : World → Heap → Prop} {d : DefRec}
    (hn : l.most = some n) (hdf : d.params.defaults = [])
    (call : ∀ (w : World) (s₀ s₁ : Shared) (mg mb : Str → Option Value) (fa : Addr) (o : Obj) (pm cd doc : Value) (a : Addr) (vs : List Value) (ns : List Int),
      Ground q loose [] XP w s₀ mg mb s₁.heap → YP w s₁.heap →
      s₁.heap.get? fa = some o → o.data = .func (docDef d.name d.params d.body d.scope pm cd doc) → s₁.heap.CodeRec cd d.name → mg d.name = some (.ref fa) →
      s₁.heap.get? a = some { cls := .type "list", data := .seq vs.toArray } → IntsAre vs ns → ns.length ≤ n → s₁.gens = #[] →
      codeAny (model l.prog w) callerA (.call (.ref fa) ⟨[.ref a], []⟩) (fun r s' => r = .ok (.ret (.bool true)) ∧ OldK s₁.heap s'.heap ∧ s'.os = s₁.os ∧ AllBare s'.gens) s₁) :
    WalkO q loose XP YP l.row.toRowW d [] (fun f vs => PySem.call f vs) := by
  intro w s₀ s₁ mg mb G Y fa o pm cd doc dV kV ho hd hcd hD hmg hg args vals as hpre hlay hrd hwl hlo
  obtain rfl : dV = .none := Dflts.none hD hdf
  obtain rfl : kV = .none := Dflts.noKw hD
  obtain ⟨a, vs, ns, rfl, rfl, hobj, hints, hlen⟩ := script_of hn hpre hwl
  refine enter_call (codeAny_mono (call w s₀ s₁ mg mb fa o pm cd doc a vs ns G Y ho (fd_plain hd) hcd hmg hobj hints hlen hg) fun r s' hq => ?_)
  obtain ⟨rfl, h2, h3, h4⟩ := hq
  exact ⟨.inl ⟨.bool true, .bool true, [], rfl, fun _ => rfl, .bool true, post_true l _, fun _ => ⟨List.Pairwise.nil, fun _ hm => (nomatch hm)⟩⟩, h2, h3, h4⟩
section
variable {prog : Program} {w : World} {A : Around} {E : Value → Shared → Prop} {s : Shared} {K : Frag}
end
end Att
namespace L2
open PySem PySem.Spec PyProof.Rows
theorem vals_ints : ∀ {vs : List Value} {ns : List Int}, IntsAre vs ns → Vals (ns.map V.int) vs
  | _, _, .nil => .nil
  | _, _, .cons n t h => .cons ⟨t, rfl⟩ (vals_ints h)
noncomputable def Only (H : Hp) : Prop := ∀ b, H b = none ∨ ∃ o xs, H b = some (.frz o (.lst xs))
theorem law_call {P : Program} {w : World} {K : PySem.W.Frag} {mg mb : Str → Option Value} {CX : CXT} {k : Nat} {fa a : Addr} {fd : FuncData} {x : Str} {sp : Sp} {s₁ : Shared} {vs : List Value} {ns : List Int}
    (KX : K.In s₁.heap) (hns : s₁.heap.Ns mainGlobals mg) (hb : s₁.heap.Ns builtinsNs mb) (hbb : ∀ x : Str, x ≠ "__name__" → mb x = bootBuiltins x) (hlim : s₁.heap.NoLimit) (hg : s₁.gens = #[])
    (ha : s₁.heap.get? a = some { cls := .type "list", data := .seq vs.toArray }) (hi : IntsAre vs ns) (hl : ns.length ≤ sizeLine) (hr : Room k callerA)
    (F : ∀ base : Heap, K.In base → base.Ns mainGlobals mg → FnOk P w K mg base CX k fa fd [x] sp) (hbind : ∀ (s : Shared) (u : Value), BindsTo s fd ⟨[u], []⟩ [(x, u)])
    (hsp : ∀ H : Hp, Only H → SqL K H a (ns.map V.int) → sp [.ref a] H (fun v _ => v = .bl true) fun _ _ _ => False)
    (hCX : ∀ H e s', CX [] H s₁ (fun _ _ _ => False) e s' → False) :
    codeAny (model P w) callerA (.call (.ref fa) ⟨[.ref a], []⟩) (fun r s' => r = .ok (.ret (.bool true)) ∧ OldK s₁.heap s'.heap ∧ s'.os = s₁.os ∧ AllBare s'.gens) s₁ := by
  have rv := vals_ints hi
  have lenV := hi.length
  have core : ∀ H : Hp, Only H → SqL K H a (ns.map V.int) → HOk P w H s₁.heap → (∀ b, H b ≠ none → b = a) → (H a ≠ none → K.lookup a = none) →
      codeAny (model P w) callerA (.call (.ref fa) ⟨[.ref a], []⟩) (fun r s' => r = .ok (.ret (.bool true)) ∧ OldK s₁.heap s'.heap ∧ s'.os = s₁.os ∧ AllBare s'.gens) s₁ := by
    intro H hO hS hok hA hK
    have base_of : ∀ {b : Addr} {o : Obj}, s₁.heap.get? b = some o → H b = none → (hidT s₁.heap H).get? b = some o := fun e n => hidT_get e n
    have noA : ∀ {b : Addr} {o : Obj} {es : Array DictEntry} {ep : Nat}, s₁.heap.get? b = some o → o.data = .dict es ep → H b = none := fun {b o es ep} e d => by
      cases q : H b with
      | none => rfl
      | some u =>
        have e' : b = a := hA b (by rw [q]; simp)
        subst e'
        rw [ha] at e; cases e
        have d' : Data.seq vs.toArray _ = Data.dict es ep := d
        cases d'
    have nsK : ∀ {b : Addr} {m : Str → Option Value}, s₁.heap.Ns b m → (hidT s₁.heap H).Ns b m := fun {b m} ⟨o, es, ep, e, d, r⟩ => ⟨o, es, ep, base_of e (noA e d), d, r⟩
    have hKb : K.In (hidT s₁.heap H) := fun b o e => base_of (KX b o e) (by
      cases q : H b with
      | none => rfl
      | some u =>
        have e' : b = a := hA b (by rw [q]; simp)
        subst e'
        rw [hK (by rw [q]; simp)] at e; cases e)
    have hM : Mod K mg (hidT s₁.heap H) := ⟨hKb, nsK hns, ⟨mb, nsK hb, hbb⟩, let ⟨mc, h1, h2⟩ := hlim; ⟨mc, nsK h1, h2⟩⟩
    have e0 : Env0 P w K mg (hidT s₁.heap H) callerA [] s₁ H := ⟨rfl, hM, fun b o e => of_hidT e, Nat.le_of_eq (hidT_size _ _), trivial, fun b hb => absurd (show b ∈ ([] : List Addr) from hb) (by simp), hok, .of_eq hg⟩
    refine codeAny_mono ((F _ hKb (nsK hns)).run callerA [] s₁ H ⟨[.ref a], []⟩ [.ref a] [.ref a] _ _ hr e0 (hbind s₁ (.ref a)) (.cons rfl .nil) (hsp H hO hS)) fun r s' h => ?_
    cases r with
    | error e => exact (hCX H e s' h).elim
    | ok fl =>
      cases fl with
      | next => exact False.elim h
      | brk => exact False.elim h
      | cont => exact False.elim h
      | ret u =>
        obtain ⟨v, H', os, bare, un, hok', r', q⟩ := h
        have q' : v = .bl true := q
        subst q'
        obtain rfl : u = Value.bool true := r'
        refine ⟨rfl, OldK.of_keep fun b o e => ?_, os, bare⟩
        cases q : H b with
        | none => exact un.keep b o e q (by intro z; exact absurd (show b ∈ ([] : List Addr) from z) (by simp)) (by simp)
        | some u =>
          rcases hO b with z | ⟨ob, xs, z⟩
          · rw [q] at z; cases z
          · have z2 := un.frzs b ob _ z
            obtain ⟨e1, _⟩ := hok b _ z
            obtain ⟨e2, _⟩ := hok' b _ z2
            rw [e] at e1; cases e1
            exact e2
  cases hk : K.lookup a with
  | some o =>
    have e := KX a o hk
    rw [ha] at e
    cases e
    refine core (fun _ => none) (fun _ => .inl rfl) (.inr ⟨_, vs.toArray, _, hk, rfl, rfl, rfl, by rw [List.size_toArray, lenV]; exact hl, by simpa using rv⟩) (fun b u z => by have z' : (none : Option HO) = some u := z; cases z') (fun b z => absurd rfl z) fun z => absurd rfl z
  | none =>
    refine core (fun b => if b = a then some (.frz { cls := .type "list", data := .seq vs.toArray } (.lst (ns.map V.int))) else none) (fun b => ?_) (.inl (.inr ⟨{ cls := .type "list", data := .seq vs.toArray }, if_pos rfl⟩)) (fun b u z => ?_) (fun b z => ?_) fun _ => hk
    · by_cases hb : b = a
      · exact .inr ⟨_, _, if_pos hb⟩
      · exact .inl (if_neg hb)
    · by_cases hb : b = a
      · have z' := (if_pos hb).symm.trans z
        cases z'
        subst hb
        exact ⟨ha, by rw [List.length_map]; exact hl, vs, _, rv, ha⟩
      · have z' := (if_neg hb).symm.trans z
        cases z'
    · by_cases hb : b = a
      · exact hb
      · exact absurd (if_neg hb) z
end L2
namespace L2
open PySem PySem.Spec PyProof.Rows
theorem walk_of {l : PySem.W.OpenLaw} {n k : Nat} {q : Program} {loose : List Str} {XP : (Str → Option Value) → Heap → Prop} {YP : World → Heap → Prop} {d : DefRec} {K : Params → PySem.W.Frag} {CX : World → CXT} {sp : World → Sp} {x : Str}
    (hn : l.most = some n) (hn2 : n ≤ sizeLine) (hdf : d.params.defaults = []) (hr : Room k callerA)
    (hY : ∀ (w : World) (h : Heap), YP w h → (K w.params).In h)
    (F : ∀ (w : World) (mg : Str → Option Value) (fa : Addr) (h : Heap), (K w.params).In h → h.Ns mainGlobals mg → mg d.name = some (.ref fa) →
      ∃ fd : FuncData, (∀ (s : Shared) (u : Value), BindsTo s fd ⟨[u], []⟩ [(x, u)]) ∧
        ∀ base : Heap, (K w.params).In base → base.Ns mainGlobals mg → FnOk l.prog w (K w.params) mg base (CX w) k fa fd [x] (sp w))
    (hsp : ∀ (w : World) (H : Hp) (a : Addr) (ns : List Int), ns.length ≤ n → Only H → SqL (K w.params) H a (ns.map V.int) → sp w [.ref a] H (fun v _ => v = .bl true) fun _ _ _ => False)
    (hCX : ∀ (w : World) (H : Hp) (s : Shared) (e : Value) (s' : Shared), CX w [] H s (fun _ _ _ => False) e s' → False) :
    PySem.W.WalkO q loose XP YP l.row.toRowW d [] (fun f vs => PySem.call f vs) := by
  refine Att.attach_call hn hdf fun w s₀ s₁ mg mb fa o pm cd doc a vs ns G Y ho hd hcd hmg hobj hints hlen hg => ?_
  have KX := hY w _ Y
  obtain ⟨fd, hb, hF⟩ := F w mg fa _ KX G.T.g hmg
  exact law_call KX G.T.g G.T.b G.T.builtins G.T.nolimit hg hobj hints (Nat.le_trans hlen hn2) hr hF hb (fun H hO hS => hsp w H a ns hlen hO hS) fun H e s' => hCX w H s₁ e s'
end L2
/- THE LAST THEOREM (shape; LID, My.* are yours):
   My.Adr: a structure of the addresses that your layer names (classes, functions); My.Txt K t: a structure (Prop) of the equations over K;
   My.txt_mk : {K} {implicit addresses ..} (e1 : nsIn K mainGlobals "law" = some (some (.ref f))) (e2 : K.lookup f = some ⟨oc, od, .func (fnOf "law" "law" params body scope dV kV doc pm an cdv ct), sl⟩) (e3 : codeIn K cdv "law" = true) .. : ∃ t, My.Txt K t
set_option maxRecDepth 100000 in
set_option maxHeartbeats 0 in
theorem PySem.Challenge.cw_LID_holds : PySem.Challenge.rw_LID.Holds := by
  w_on; o_law; k_head; (case hw => w_witness2)
  k_fill
  refine L2.walk_of (l := PySem.Challenge.rw_LID) (n := 63) (k := 40) (x := "script") (CX := fun w => ..) (sp := fun _ => My.sp_law) rfl (by decide) rfl ⟨rfl, by decide, by decide⟩ (fun w h Y => PySem.W.kIn_of Y) ?F ?S ?C
  case F =>
    intro w mg fa h KX G hmg
    have T : ∃ t, My.Txt (L2.KOf KX) t := by
      dsimp only [L2.KOf]                          -- K must stand as «<heap const> w.params» for k_is
      refine' My.txt_mk ?e1 ?e2 ?e3 ..
      (case e1 => PySem.W.k_is)                    -- in the order: a name -> its address -> its object -> its parts
      (case e2 => PySem.W.k_is)
      ..
    obtain ⟨t, T⟩ := T
    have e0 := hmg.symm.trans (PySem.W.mg_of KX G T.law)
    cases e0                                       -- fa is the law's own address
    exact ⟨_, fun s u => .of_eq rfl, fun base kb nb => My.law_fn T kb nb⟩     -- if «.of_eq rfl» comes too early: refine' ⟨_, ?b, fun base kb nb => My.law_fn T kb nb⟩; exact fun s u => .of_eq rfl
  case S => exact fun w H a ns hl hO hS => ..
  case C => exact ..
(the tactic k_is has no namespace: write k_is) -/
namespace L2
open PySem PySem.Spec PyProof.Rows
noncomputable def inClass (s : Stmt) (j : Nat) : Stmt := match s with
  | .ClassDef _ _ _ body _ _ _ _ _ _ _ => body.getD j (.Pass ⟨0, 0, 0, 0⟩)
  | _ => .Pass ⟨0, 0, 0, 0⟩
noncomputable def defArgs (s : Stmt) : Arguments := match s with
  | .FunctionDef _ a _ _ _ _ _ _ _ _ => a
  | _ => { posonlyargs := [], args := [], vararg := none, kwonlyargs := [], kw_defaults := [], kwarg := none, defaults := [] }
noncomputable def defBody (s : Stmt) : List Stmt := match s with
  | .FunctionDef _ _ b _ _ _ _ _ _ _ => b
  | _ => []
noncomputable def defScope (s : Stmt) : Scope := match s with
  | .FunctionDef _ _ _ _ _ _ sc _ _ _ => sc
  | _ => { kind := .function, names := [], isGenerator := false, isCoroutine := false }
noncomputable abbrev CX0 : CXT := fun _ _ _ _ _ _ => False
noncomputable abbrev E0 : XK := fun _ _ _ => False
theorem pass0 {X : Cx} : Passes CX0 X E0 := fun _ _ _ _ _ _ _ h => h.elim
structure Fun (K : PySem.W.Frag) (x qual : Str) (st : Stmt) (f : Addr) (fd : FuncData) : Prop where
  ex : ∃ (oc : Value) (od : Option Addr) (kV doc pm : Value) (an : Option Addr) (cdv ct : Value) (osl : Array (Option Value)),
    fd = PySem.W.fnOf x qual (defArgs st) (defBody st) (defScope st) .none kV doc pm an cdv ct ∧ K.lookup f = some ⟨oc, od, .func fd, osl⟩ ∧ PySem.W.codeIn K cdv qual = true
  kp : PySem.W.keepIn K (.ref f) = true
section
variable {P : Program} {w : World} {K : PySem.W.Frag} {mg : Str → Option Value} {base : Heap}
theorem Fun.ok {x qual : Str} {st : Stmt} {f : Addr} {fd : FuncData} {N ps : List Str} {k : Nat} {sp : Sp} (F : Fun K x qual st f fd) (S : FnScope N ps (defScope st)) (len : ∀ vs H Q E, sp vs H Q E → vs.length = ps.length)
    (hbody : ∀ (cdv : Value) (A : Around) (outer : List Env) (s : Shared) (H : Hp) (vs : List V) (Q : VK) (E : XK), Room k (A.deeper (envOfC qual (defScope st) s.heap.objs.size f cdv)) → sp vs H Q E →
      ∃ t, PSs (cxOf CX0 P w K mg base N qual (defScope st) f cdv A outer s H E).nox (defBody st) t ∧ t { nx := fun _ H' => Q .non H', rt := Q } (start N vs) H) : FnOk P w K mg base CX0 (k + 1) f fd ps sp := by
  obtain ⟨oc, od, kV, doc, pm, an, cdv, ct, osl, rfl, lk, hcd⟩ := F.ex
  refine fn_of lk hcd S len fun A outer s H vs Q E hr hsp => ?_
  obtain ⟨t, h, q⟩ := hbody cdv A outer s H vs Q E hr hsp
  exact ⟨t, h.nox, q⟩
theorem Fun.binds {x qual : Str} {st : Stmt} {f : Addr} {fd : FuncData} {ps : List Str} (F : Fun K x qual st f fd)
    (h : ∀ (kV doc pm : Value) (an : Option Addr) (cdv ct : Value) (us : List Value), us.length = ps.length → bindArgs (PySem.W.fnOf x qual (defArgs st) (defBody st) (defScope st) .none kV doc pm an cdv ct) ⟨us, []⟩ = pure (ps.zip us)) : Binds K fd ps [] := by
  obtain ⟨oc, od, kV, doc, pm, an, cdv, ct, osl, rfl, lk, hcd⟩ := F.ex
  exact .all (h kV doc pm an cdv ct)
theorem fun_mk {x qual : Str} {st : Stmt} {f : Addr} {oc : Value} {od an : Option Addr} {osl : Array (Option Value)} {kV doc pm cdv ct : Value} (l : K.lookup f = some ⟨oc, od, .func (PySem.W.fnOf x qual (defArgs st) (defBody st) (defScope st) .none kV doc pm an cdv ct), osl⟩)
    (c : PySem.W.codeIn K cdv qual = true) (k : PySem.W.keepIn K (.ref f) = true) : Fun K x qual st f (PySem.W.fnOf x qual (defArgs st) (defBody st) (defScope st) .none kV doc pm an cdv ct) := ⟨⟨oc, od, kV, doc, pm, an, cdv, ct, osl, rfl, l, c⟩, k⟩
end
theorem hu_of {A : Around} {k : Nat} (hr : Room k A) : A.units + 1 < cLine := Nat.lt_of_le_of_lt (Nat.add_le_add_left (by decide : 1 ≤ 64) _) hr.units
section
variable {X : Cx}
theorem pv (i : Nat) {x : Str} {pos : Pos} (hN : X.N[i]? = some x := by rfl) (hv : Vis X.env.scope x := by first | exact Or.inl rfl | exact Or.inr (Or.inl rfl) | exact Or.inr (Or.inr rfl)) (hd : (x == ("__debug__" : Str)) = false := by decide)
    (hcd : (x == ("__classdict__" : Str)) = false := by decide) : PE X (.Name x pos) (tVar i) := pe_var hN hv hd hcd
end
noncomputable def Same (H H' : Hp) : Prop := ∀ b o, H b = some o → H' b = some o
theorem Same.refl (H : Hp) : Same H H := fun _ _ h => h
theorem Same.trans {H H1 H2 : Hp} (a : Same H H1) (b : Same H1 H2) : Same H H2 := fun c o h => b c o (a c o h)
theorem Same.free {H H' : Hp} (e : Same H H') {l : Addr} (h : H' l = Option.none) : H l = Option.none := by
  cases q : H l with
  | none => rfl
  | some o =>
    rw [e l o q] at h
    cases h
theorem Same.seq {K : PySem.W.Frag} {H H' : Hp} {a : Addr} {xs : List V} (e : Same H H') (h : SqL K H a xs) : SqL K H' a xs := by
  rcases h with (h | ⟨o, h⟩) | h
  · exact .inl (.inl (e _ _ h))
  · exact .inl (.inr ⟨o, e _ _ h⟩)
  · exact .inr h
section
variable {κ : Type} [DecidableEq κ]
end
end L2
end
section
set_option maxRecDepth 100000
namespace TK
open PySem PySem.Spec PyProof.Rows L2
noncomputable abbrev St := L2.St
inductive D where
  | non | bl (b : Bool) | int (i : Int) | str (x : Str) | tup (xs : List D) | lst (xs : List D)
noncomputable def FzL (K : PySem.W.Frag) (H : Hp) (a : Addr) (xs : List V) : Prop :=
  (∃ o, H a = some (.frz o (.lst xs))) ∨
    ∃ (o : Obj) (its : Array Value) (n : Nat), K.lookup a = some o ∧ o.cls = .type "list" ∧ o.dict = none ∧ o.data = .seq its n ∧ its.size ≤ sizeLine ∧ Vals xs its.toList
theorem FzL.sq {K : PySem.W.Frag} {H : Hp} {a : Addr} {xs : List V} (h : FzL K H a xs) : SqL K H a xs := by
  rcases h with ⟨o, h⟩ | h
  · exact .inl (.inr ⟨o, h⟩)
  · exact .inr h
structure Kp (H H' : Hp) : Prop where
  tup : ∀ a xs, H a = some (.tup xs) → H' a = some (.tup xs)
  frz : ∀ a o u, H a = some (.frz o u) → H' a = some (.frz o u)
theorem Kp.refl (H : Hp) : Kp H H := ⟨fun _ _ h => h, fun _ _ _ h => h⟩
theorem Kp.trans {H H1 H2 : Hp} (a : Kp H H1) (b : Kp H1 H2) : Kp H H2 := ⟨fun c xs h => b.tup c xs (a.tup c xs h), fun c o u h => b.frz c o u (a.frz c o u h)⟩
theorem Kp.of {H H' : Hp} (s : Same H H') : Kp H H' := ⟨fun a xs h => s a _ h, fun a o u h => s a _ h⟩
theorem Kp.upd {H : Hp} {a : Addr} {xs : List V} (h : H a = some (.lst xs)) (o : HO) : Kp H (upd H a o) :=
  ⟨fun c ys q => by rw [upd_ne (ne_of q h (by intro z; cases z))]; exact q, fun c ob u q => by rw [upd_ne (ne_of q h (by intro z; cases z))]; exact q⟩
theorem Kp.fzL {K : PySem.W.Frag} {H H' : Hp} (k : Kp H H') {a : Addr} {xs : List V} (h : FzL K H a xs) : FzL K H' a xs := by
  rcases h with ⟨o, h⟩ | h
  · exact .inl ⟨o, k.frz _ _ _ h⟩
  · exact .inr h
theorem same_new {H : Hp} {p : Addr} (h : H p = none) (o : HO) : Same H (upd H p o) := fun b u q => by rw [upd_ne (ne_of_none q h)]; exact q
mutual
noncomputable def IsS (K : PySem.W.Frag) (H : Hp) : D → V → Prop
  | .non, v => v = .non
  | .bl b, v => v = .bl b
  | .int i, v => v = .int i
  | .str x, v => v = .str x
  | .tup ds, v => ∃ a xs, v = .ref a ∧ H a = some (.tup xs) ∧ AllS K H ds xs
  | .lst ds, v => ∃ a xs, v = .ref a ∧ FzL K H a xs ∧ AllS K H ds xs
noncomputable def AllS (K : PySem.W.Frag) (H : Hp) : List D → List V → Prop
  | [], vs => vs = []
  | d :: ds, vs => ∃ v r, vs = v :: r ∧ IsS K H d v ∧ AllS K H ds r
end
section
variable {K : PySem.W.Frag} {H H' H0 : Hp}
mutual
theorem IsS.mono (k : Kp H H') : ∀ (d : D) (v : V), IsS K H d v → IsS K H' d v
  | .non, v, h => h
  | .bl _, v, h => h
  | .int _, v, h => h
  | .str _, v, h => h
  | .tup ds, v, h => by
    unfold IsS at h ⊢
    obtain ⟨a, xs, e, q, r⟩ := h
    exact ⟨a, xs, e, k.tup _ _ q, AllS.mono k ds xs r⟩
  | .lst ds, v, h => by
    unfold IsS at h ⊢
    obtain ⟨a, xs, e, q, r⟩ := h
    exact ⟨a, xs, e, k.fzL q, AllS.mono k ds xs r⟩
theorem AllS.mono (k : Kp H H') : ∀ (ds : List D) (vs : List V), AllS K H ds vs → AllS K H' ds vs
  | [], vs, h => h
  | d :: ds, vs, h => by
    unfold AllS at h ⊢
    obtain ⟨v, r, e, q, t⟩ := h
    exact ⟨v, r, e, IsS.mono k d v q, AllS.mono k ds r t⟩
end
theorem AllS.length : ∀ {ds : List D} {vs : List V}, AllS K H ds vs → ds.length = vs.length
  | [], vs, h => by unfold AllS at h; subst h; rfl
  | d :: ds, vs, h => by
    unfold AllS at h
    obtain ⟨v, r, e, q, t⟩ := h
    subst e
    rw [List.length_cons, List.length_cons, AllS.length t]
theorem AllS.nil : AllS K H [] [] := by unfold AllS; rfl
theorem AllS.cons {d : D} {ds : List D} {v : V} {vs : List V} (h : IsS K H d v) (t : AllS K H ds vs) : AllS K H (d :: ds) (v :: vs) := by
  unfold AllS; exact ⟨v, vs, rfl, h, t⟩
theorem AllS.get : ∀ {ds : List D} {vs : List V} {i : Nat} {d : D}, AllS K H ds vs → ds[i]? = some d → ∃ v, vs[i]? = some v ∧ IsS K H d v
  | [], _, _, _, _, e => by simp at e
  | d :: ds, vs, 0, x, h, e => by
    unfold AllS at h
    obtain ⟨v, r, rfl, q, t⟩ := h
    simp at e; subst e
    exact ⟨v, rfl, q⟩
  | d :: ds, vs, i + 1, x, h, e => by
    unfold AllS at h
    obtain ⟨v, r, rfl, q, t⟩ := h
    obtain ⟨u, h1, h2⟩ := AllS.get (i := i) t (by simpa using e)
    exact ⟨u, by simpa using h1, h2⟩
theorem AllS.append : ∀ {ds es : List D} {vs us : List V}, AllS K H ds vs → AllS K H es us → AllS K H (ds ++ es) (vs ++ us)
  | [], _, vs, _, h, t => by unfold AllS at h; subst h; exact t
  | d :: ds, es, vs, us, h, t => by
    unfold AllS at h
    obtain ⟨v, r, rfl, q, s⟩ := h
    exact AllS.cons q (AllS.append s t)
theorem AllS.take : ∀ {ds : List D} {vs : List V} (n : Nat), AllS K H ds vs → AllS K H (ds.take n) (vs.take n)
  | _, _, 0, _ => by simp; exact AllS.nil
  | [], vs, n + 1, h => by unfold AllS at h; subst h; simp; exact AllS.nil
  | d :: ds, vs, n + 1, h => by
    unfold AllS at h
    obtain ⟨v, r, rfl, q, s⟩ := h
    exact AllS.cons q (AllS.take n s)
theorem AllS.drop : ∀ {ds : List D} {vs : List V} (n : Nat), AllS K H ds vs → AllS K H (ds.drop n) (vs.drop n)
  | _, _, 0, h => h
  | [], vs, n + 1, h => by unfold AllS at h; subst h; simp; exact AllS.nil
  | d :: ds, vs, n + 1, h => by
    unfold AllS at h
    obtain ⟨v, r, rfl, q, s⟩ := h
    exact AllS.drop n s
theorem AllS.reverse {ds : List D} {vs : List V} (h : AllS K H ds vs) : AllS K H ds.reverse vs.reverse := by
  induction ds generalizing vs with
  | nil => unfold AllS at h; subst h; exact AllS.nil
  | cons d ds ih =>
    unfold AllS at h
    obtain ⟨v, r, rfl, q, s⟩ := h
    rw [List.reverse_cons, List.reverse_cons]
    exact (ih s).append (AllS.cons q AllS.nil)
theorem AllS.ints {ns : List Int} : AllS K H (ns.map D.int) (ns.map V.int) := by
  induction ns with
  | nil => exact AllS.nil
  | cons n r ih => exact AllS.cons (by unfold IsS; rfl) ih
theorem IsS.s_int {i : Int} : IsS K H (.int i) (.int i) := by unfold IsS; rfl
theorem IsS.s_bl {i : Bool} : IsS K H (.bl i) (.bl i) := by unfold IsS; rfl
theorem IsS.s_str {i : Str} : IsS K H (.str i) (.str i) := by unfold IsS; rfl
theorem IsS.s_non : IsS K H .non .non := by unfold IsS; rfl
theorem IsS.s_tup {ds : List D} {a : Addr} {xs : List V} (q : H a = some (.tup xs)) (r : AllS K H ds xs) : IsS K H (.tup ds) (.ref a) := by unfold IsS; exact ⟨a, xs, rfl, q, r⟩
theorem IsS.s_lst {ds : List D} {a : Addr} {xs : List V} (q : FzL K H a xs) (r : AllS K H ds xs) : IsS K H (.lst ds) (.ref a) := by unfold IsS; exact ⟨a, xs, rfl, q, r⟩
end
inductive R where
  | st (d : D) | nw (ds : List D) | bw (ds : List D) | dk (kvs : List (Key × D)) | dt (kvs : List (List Key × D)) | ob (a : Addr) | ms (a C : Addr) (d : D) (fs : List (Str × D))
noncomputable def KVS {κ : Type} (K : PySem.W.Frag) (H : Hp) : List (κ × D) → List (κ × V) → Prop
  | [], vs => vs = []
  | p :: ps, vs => ∃ v r, vs = (p.1, v) :: r ∧ IsS K H p.2 v ∧ KVS K H ps r
theorem KVS.mono {κ : Type} {K : PySem.W.Frag} {H H' : Hp} (k : Kp H H') : ∀ (ps : List (κ × D)) (vs : List (κ × V)), KVS K H ps vs → KVS K H' ps vs
  | [], _, h => h
  | p :: ps, vs, h => by
    obtain ⟨v, r, e, q, t⟩ := h
    exact ⟨v, r, e, q.mono k _ _, KVS.mono k ps r t⟩
noncomputable def IsR (K : PySem.W.Frag) (H0 H : Hp) : R → V → Prop
  | .st d, v => IsS K H d v
  | .nw ds, v => ∃ a xs, v = .ref a ∧ H0 a = none ∧ H a = some (.lst xs) ∧ AllS K H ds xs
  | .bw ds, v => ∃ a xs, v = .ref a ∧ H a = some (.lst xs) ∧ AllS K H ds xs
  | .dk kvs, v => ∃ a ps, v = .ref a ∧ H a = some (.dK ps) ∧ KVS K H kvs ps
  | .dt kvs, v => ∃ a ps, v = .ref a ∧ H a = some (.dT ps) ∧ KVS K H kvs ps
  | .ob a, v => v = .ref a
  | .ms a C d fs, v => IsS K H d v ∧ ∃ dx vs, H a = some (.ins C dx vs) ∧ KVS K H fs vs
theorem IsR.mono {K : PySem.W.Frag} {H0 H H' : Hp} (s : Same H H') : ∀ {r : R} {v : V}, IsR K H0 H r v → IsR K H0 H' r v
  | .st d, v, h => IsS.mono (Kp.of s) d v h
  | .nw ds, v, h => by obtain ⟨a, xs, e, n, q, t⟩ := h; exact ⟨a, xs, e, n, s _ _ q, t.mono (Kp.of s) _ _⟩
  | .bw ds, v, h => by obtain ⟨a, xs, e, q, t⟩ := h; exact ⟨a, xs, e, s _ _ q, t.mono (Kp.of s) _ _⟩
  | .dk ds, v, h => by obtain ⟨a, xs, e, q, t⟩ := h; exact ⟨a, xs, e, s _ _ q, t.mono (Kp.of s) _ _⟩
  | .dt ds, v, h => by obtain ⟨a, xs, e, q, t⟩ := h; exact ⟨a, xs, e, s _ _ q, t.mono (Kp.of s) _ _⟩
  | .ob a, v, h => h
  | .ms a C d fs, v, h => by obtain ⟨h1, dx, vs, q, t⟩ := h; exact ⟨h1.mono (Kp.of s) _ _, dx, vs, s _ _ q, t.mono (Kp.of s) _ _⟩
theorem IsR.older {K : PySem.W.Frag} {H0 H1 H : Hp} (s : Same H0 H1) : ∀ {r : R} {v : V}, IsR K H1 H r v → IsR K H0 H r v
  | .st d, v, h => h
  | .nw ds, v, h => by obtain ⟨a, xs, e, n, q, t⟩ := h; exact ⟨a, xs, e, s.free n, q, t⟩
  | .bw ds, v, h => h
  | .dk ds, v, h => h
  | .dt ds, v, h => h
  | .ob a, v, h => h
  | .ms _ _ _ _, v, h => h
inductive Sl where
  | dat (d : D) | own (ds : List D) | bor (ds : List D) | dk (kvs : List (Key × D)) | dt (kvs : List (List Key × D)) | ob (a : Addr) | ins (a C : Addr) (fs : List (Str × D))
noncomputable abbrev DSt := List (Option Sl)
noncomputable def Sl.mut : Sl → Bool
  | .own _ => true
  | .dk _ => true
  | .dt _ => true
  | .ins _ _ _ => true
  | _ => false
noncomputable def SlR (K : PySem.W.Frag) (H0 H : Hp) : Sl → V → Prop
  | .dat d, v => IsS K H d v
  | .own ds, v => ∃ a xs, v = .ref a ∧ H0 a = none ∧ H a = some (.lst xs) ∧ AllS K H ds xs
  | .bor ds, v => ∃ a xs, v = .ref a ∧ H0 a = some (.lst xs) ∧ AllS K H ds xs
  | .dk kvs, v => ∃ a ps, v = .ref a ∧ H0 a = none ∧ H a = some (.dK ps) ∧ KVS K H kvs ps
  | .dt kvs, v => ∃ a ps, v = .ref a ∧ H0 a = none ∧ H a = some (.dT ps) ∧ KVS K H kvs ps
  | .ob a, v => v = .ref a
  | .ins a C fs, v => v = .ref a ∧ H0 a = none ∧ ∃ dx vs, H a = some (.ins C dx vs) ∧ KVS K H fs vs
theorem SlR.mono {K : PySem.W.Frag} {H0 H H' : Hp} (s : Same H H') : ∀ {r : Sl} {v : V}, SlR K H0 H r v → SlR K H0 H' r v
  | .dat d, v, h => IsS.mono (Kp.of s) d v h
  | .own ds, v, h => by obtain ⟨a, xs, e, n, q, t⟩ := h; exact ⟨a, xs, e, n, s _ _ q, t.mono (Kp.of s) _ _⟩
  | .bor ds, v, h => by obtain ⟨a, xs, e, q, t⟩ := h; exact ⟨a, xs, e, q, t.mono (Kp.of s) _ _⟩
  | .dk ds, v, h => by obtain ⟨a, xs, e, n, q, t⟩ := h; exact ⟨a, xs, e, n, s _ _ q, t.mono (Kp.of s) _ _⟩
  | .dt ds, v, h => by obtain ⟨a, xs, e, n, q, t⟩ := h; exact ⟨a, xs, e, n, s _ _ q, t.mono (Kp.of s) _ _⟩
  | .ob a, v, h => h
  | .ins a C fs, v, h => by obtain ⟨e, n, dx, vs, q, t⟩ := h; exact ⟨e, n, dx, vs, s _ _ q, t.mono (Kp.of s) _ _⟩
structure Rep (K : PySem.W.Frag) (H0 : Hp) (τ : DSt) (σ : St) (H : Hp) : Prop where
  len : τ.length = σ.length
  same : Same H0 H
  here : ∀ (i : Nat) (s : Sl), τ[i]? = some (some s) → ∃ v, σ[i]? = some (some v) ∧ SlR K H0 H s v
  apart : ∀ (i j : Nat) (s t : Sl) (v : V), i ≠ j → τ[i]? = some (some s) → τ[j]? = some (some t) → s.mut = true → t.mut = true → σ[i]? = some (some v) → σ[j]? = some (some v) → False
theorem Rep.mono {K : PySem.W.Frag} {H0 H H' : Hp} {τ : DSt} {σ : St} (h : Rep K H0 τ σ H) (s : Same H H') : Rep K H0 τ σ H' :=
  ⟨h.len, h.same.trans s, fun i sl e => let ⟨v, q, r⟩ := h.here i sl e; ⟨v, q, r.mono s⟩, h.apart⟩
noncomputable abbrev WE := DSt → (R → Prop) → Prop
noncomputable def liftE (K : PySem.W.Frag) (H0 : Hp) (w : WE) : TE := fun σ H Q => ∃ τ, Rep K H0 τ σ H ∧ w τ fun r => ∀ v H', Same H H' → IsR K H H' r v → Q v H'
structure DE (X : Cx) (H0 : Hp) (e : Expr) (w : WE) : Prop where
  mono : ∀ (τ : DSt) (P Q : R → Prop), (∀ r, P r → Q r) → w τ P → w τ Q
  pe : PE X e (liftE X.K H0 w)
noncomputable abbrev WT := DSt → (Bool → Prop) → Prop
noncomputable def liftT (K : PySem.W.Frag) (H0 : Hp) (w : WT) : TT := fun σ H Q => ∃ τ, Rep K H0 τ σ H ∧ w τ fun b => ∀ H', Same H H' → Q b H'
structure DT (X : Cx) (H0 : Hp) (e : Expr) (w : WT) : Prop where
  mono : ∀ (τ : DSt) (P Q : Bool → Prop), (∀ r, P r → Q r) → w τ P → w τ Q
  pt : PT X e (liftT X.K H0 w)
structure DW (X : Cx) (H0 : Hp) (e : Expr) (w : WT) : Prop where
  mono : ∀ (τ : DSt) (P Q : Bool → Prop), (∀ r, P r → Q r) → w τ P → w τ Q
  pw : PW X e (liftT X.K H0 w)
noncomputable abbrev WA := DSt → (List R → Prop) → Prop
noncomputable def AllR (K : PySem.W.Frag) (H0 H : Hp) : List R → List V → Prop
  | [], vs => vs = []
  | r :: rs, vs => ∃ v t, vs = v :: t ∧ IsR K H0 H r v ∧ AllR K H0 H rs t
noncomputable def liftA (K : PySem.W.Frag) (H0 : Hp) (w : WA) : TA := fun σ H Q => ∃ τ, Rep K H0 τ σ H ∧ w τ fun rs => ∀ vs H', Same H H' → AllR K H H' rs vs → Q vs H'
structure DA (X : Cx) (H0 : Hp) (es : List Expr) (w : WA) : Prop where
  len : ∀ (τ : DSt) (Q : List R → Prop), w τ Q → w τ fun rs => rs.length = es.length ∧ Q rs
  mono : ∀ (τ : DSt) (P Q : List R → Prop), (∀ r, P r → Q r) → w τ P → w τ Q
  pa : PA X es (liftA X.K H0 w)
structure DEnds where
  nx : DSt → Prop
  rt : R → Prop
  bk : DSt → Prop
  ct : DSt → Prop
noncomputable abbrev WS := DEnds → DSt → Prop
structure DEnds.Le (E F : DEnds) : Prop where
  nx : ∀ τ, E.nx τ → F.nx τ
  rt : ∀ r, E.rt r → F.rt r
  bk : ∀ τ, E.bk τ → F.bk τ
  ct : ∀ τ, E.ct τ → F.ct τ
noncomputable def liftD (K : PySem.W.Frag) (H0 Hs : Hp) (D : Ends) : DEnds where
  nx := fun τ => ∀ σ H, Kp Hs H → Rep K H0 τ σ H → D.nx σ H
  rt := fun r => ∀ v H, Same H0 H → IsR K H0 H r v → D.rt v H
  bk := fun τ => ∀ σ H, Kp Hs H → Rep K H0 τ σ H → D.bk σ H
  ct := fun τ => ∀ σ H, Kp Hs H → Rep K H0 τ σ H → D.ct σ H
theorem liftD_le {K : PySem.W.Frag} {H0 H H1 : Hp} {D : Ends} (k : Kp H H1) : (liftD K H0 H D).Le (liftD K H0 H1 D) :=
  ⟨fun τ h σ H2 k2 hR => h σ H2 (k.trans k2) hR, fun _ h => h, fun τ h σ H2 k2 hR => h σ H2 (k.trans k2) hR, fun τ h σ H2 k2 hR => h σ H2 (k.trans k2) hR⟩
noncomputable def liftS (K : PySem.W.Frag) (H0 : Hp) (w : WS) : TS := fun D σ H => ∃ τ, Rep K H0 τ σ H ∧ w (liftD K H0 H D) τ
structure DS (X : Cx) (H0 : Hp) (st : Stmt) (w : WS) : Prop where
  mono : ∀ (τ : DSt) (E F : DEnds), E.Le F → w E τ → w F τ
  ps : PS X st (liftS X.K H0 w)
structure DSs (X : Cx) (H0 : Hp) (sts : List Stmt) (w : WS) : Prop where
  mono : ∀ (τ : DSt) (E F : DEnds), E.Le F → w E τ → w F τ
  ps : PSs X sts (liftS X.K H0 w)
end TK
end
section
set_option maxRecDepth 100000
namespace TK
open PySem PySem.Spec PyProof.Rows L2
theorem peW {X : Cx} {e : Expr} {t t' : TE} (h : PE X e t) (f : ∀ σ H Q, t' σ H Q → t σ H Q) : PE X e t' := fun pins s σ H Q I q => h pins s σ H Q I (f σ H Q q)
theorem ptW {X : Cx} {e : Expr} {t t' : TT} (h : PT X e t) (f : ∀ σ H Q, t' σ H Q → t σ H Q) : PT X e t' := fun pins s σ H Q I q => h pins s σ H Q I (f σ H Q q)
theorem pwW {X : Cx} {e : Expr} {t t' : TT} (h : PW X e t) (f : ∀ σ H Q, t' σ H Q → t σ H Q) : PW X e t' := fun whole pins s σ H Q I q => h whole pins s σ H Q I (f σ H Q q)
theorem paW {X : Cx} {e : List Expr} {t t' : TA} (h : PA X e t) (f : ∀ σ H Q, t' σ H Q → t σ H Q) : PA X e t' := fun pos pins s σ H Q I q => h pos pins s σ H Q I (f σ H Q q)
theorem psW {X : Cx} {e : Stmt} {t t' : TS} (h : PS X e t) (f : ∀ D σ H, t' D σ H → t D σ H) : PS X e t' := fun pins s σ H D I q => h pins s σ H D I (f D σ H q)
theorem pssW {X : Cx} {e : List Stmt} {t t' : TS} (h : PSs X e t) (f : ∀ D σ H, t' D σ H → t D σ H) : PSs X e t' := fun pins s σ H D I q => h pins s σ H D I (f D σ H q)
noncomputable abbrev IsV (K : PySem.W.Frag) (H : Hp) : R → V → Prop := IsR K (fun _ => none) H
theorem IsR.v {K : PySem.W.Frag} {H0 H : Hp} : ∀ {r : R} {v : V}, IsR K H0 H r v → IsV K H r v
  | .st d, v, h => h
  | .nw ds, v, h => by obtain ⟨a, xs, e, n, q, t⟩ := h; exact ⟨a, xs, e, rfl, q, t⟩
  | .bw ds, v, h => h
  | .dk ds, v, h => h
  | .dt ds, v, h => h
  | .ob a, v, h => h
  | .ms _ _ _ _, v, h => h
theorem isr_bl {K : PySem.W.Frag} {H0 H : Hp} {k : Bool} : IsR K H0 H (.st (.bl k)) (.bl k) := IsS.s_bl (K := K) (H := H)
theorem isr_int {K : PySem.W.Frag} {H0 H : Hp} {k : Int} : IsR K H0 H (.st (.int k)) (.int k) := IsS.s_int (K := K) (H := H)
theorem isr_str {K : PySem.W.Frag} {H0 H : Hp} {k : Str} : IsR K H0 H (.st (.str k)) (.str k) := IsS.s_str (K := K) (H := H)
section
variable {X : Cx} {H0 : Hp} {a b c e : Expr} {pos : Pos} {wa wb wc we : WE}
noncomputable def rdS : Sl → R
  | .dat d => .st d
  | .own ds => .bw ds
  | .bor ds => .bw ds
  | .dk k => .dk k
  | .dt k => .dt k
  | .ob a => .ob a
  | .ins a _ _ => .ob a
theorem SlR.rd {K : PySem.W.Frag} {H0 H Hs : Hp} (s : Same H0 H) : ∀ {r : Sl} {v : V}, SlR K H0 H r v → IsR K Hs H (rdS r) v
  | .dat d, v, h => h
  | .own ds, v, h => by obtain ⟨a, xs, e, n, q, t⟩ := h; exact ⟨a, xs, e, q, t⟩
  | .bor ds, v, h => by obtain ⟨a, xs, e, q, t⟩ := h; exact ⟨a, xs, e, s _ _ q, t⟩
  | .dk ds, v, h => by obtain ⟨a, xs, e, n, q, t⟩ := h; exact ⟨a, xs, e, q, t⟩
  | .dt ds, v, h => by obtain ⟨a, xs, e, n, q, t⟩ := h; exact ⟨a, xs, e, q, t⟩
  | .ob a, v, h => h
  | .ins a C fs, v, h => h.1
noncomputable def wV (i : Nat) : WE := fun τ Q => ∃ s, τ[i]? = some (some s) ∧ Q (rdS s)
theorem DE.var {i : Nat} (h : PE X e (tVar i)) : DE X H0 e (wV i) where
  mono := fun τ P Q f ⟨s, h1, h2⟩ => ⟨s, h1, f _ h2⟩
  pe := peW h fun σ H Q ⟨τ, hR, s, h1, h2⟩ => by
    obtain ⟨v, hv, q⟩ := hR.here i s h1
    exact ⟨v, hv, h2 v H (Same.refl H) (q.rd hR.same)⟩
noncomputable def wC (d : D) : WE := fun _ Q => Q (.st d)
theorem DE.con {v : V} {d : D} (h : PE X e (tC v)) (hd : ∀ K H, IsS K H d v) : DE X H0 e (wC d) where
  mono := fun τ P Q f h => f _ h
  pe := peW h fun σ H Q ⟨τ, hR, h⟩ => h v H (Same.refl H) (hd _ _)
theorem DE.int {i : Int} {j : Nat} : DE X H0 (.Constant (.int i) j pos) (wC (.int i)) := DE.con pe_int fun _ _ => IsS.s_int
theorem DE.bl {i : Bool} {j : Nat} : DE X H0 (.Constant (.bool i) j pos) (wC (.bl i)) := DE.con pe_bl fun _ _ => IsS.s_bl
theorem DE.str {i : Str} {j : Nat} : DE X H0 (.Constant (.str i) j pos) (wC (.str i)) := DE.con pe_str fun _ _ => IsS.s_str
theorem DE.non {j : Nat} : DE X H0 (.Constant .none j pos) (wC .non) := DE.con pe_non fun _ _ => IsS.s_non
noncomputable def fzR : R → (D → Prop) → Prop
  | .st d, Q => Q d
  | .nw ds, Q => Q (.lst ds)
  | _, _ => False
theorem Inv.freeze {pins : List (Addr × Obj)} {σ : St} {H : Hp} {s : Shared} {x : Addr} {xs : List V} (I : Inv X pins σ H s) (h : H x = some (.lst xs)) : ∃ o, Inv X pins σ (upd H x (.frz o (.lst xs))) s := by
  obtain ⟨z, its, n, r, q⟩ := I.hok x _ h
  refine ⟨_, I.write (t' := s.toks) (h' := s.heap) (e := x) (o := .frz { cls := .type "list", data := .seq its.toArray n } (.lst xs)) (by rw [h]; trivial) (.inl rfl) (fun b u _ k => k) ⟨_, q⟩ ?_⟩
  exact ⟨q, z, its, n, r, q⟩
theorem DE.fz (h : DE X H0 e we) : DE X H0 e (fun τ Q => we τ fun r => fzR r fun d => Q (.st d)) where
  mono := fun τ P Q f h' => h.mono τ _ _ (fun r q => by
    cases r <;> first | exact f _ q | exact q) h'
  pe := by
    intro pins s σ H Q I ⟨τ, hR, hw⟩
    refine thn (h.pe pins s σ H (fun v H' => Same H H' ∧ ∃ r, IsR X.K H H' r v ∧ fzR r fun d => ∀ v H', Same H H' → IsS X.K H' d v → Q v H') I ⟨τ, hR, h.mono τ _ _ (fun r q v H' sm ir => ⟨sm, r, ir, q⟩) hw⟩) ?_
    rintro u s1 ⟨v, H1, I1, rv, sm, r, ir, q⟩
    cases r with
    | st d => exact ⟨v, H1, I1, rv, q v H1 sm ir⟩
    | nw ds =>
      obtain ⟨p, xs, rfl, hn, hp, al⟩ := ir
      obtain ⟨o, I2⟩ := Inv.freeze I1 hp
      refine ⟨.ref p, _, I2, rv, q _ _ (fun b ob hb => ?_) (IsS.s_lst (.inl ⟨o, upd_same⟩) (al.mono (Kp.upd hp _) _ _))⟩
      rw [upd_ne (ne_of_none hb hn)]
      exact sm b ob hb
    | bw _ => exact q.elim
    | dk _ => exact q.elim
    | dt _ => exact q.elim
    | ob _ => exact q.elim
    | ms _ _ _ _ => exact q.elim
theorem two (ha : DE X H0 a wa) (hb : DE X H0 b wb) {τ : DSt} {σ : St} {H : Hp} (hR : Rep X.K H0 τ σ H) {F : R → R → Prop} (h : wa τ fun x => wb τ fun y => F x y) {G : V → V → Hp → Prop}
    (hG : ∀ x y v u H', Same H H' → IsR X.K H H' x v → IsR X.K H H' y u → F x y → G v u H') : liftE X.K H0 wa σ H fun v H1 => liftE X.K H0 wb σ H1 fun u H2 => G v u H2 :=
  ⟨τ, hR, ha.mono τ _ _ (fun x hx v H1 s1 r1 => ⟨τ, hR.mono s1, hb.mono τ _ _ (fun y hy u H2 s2 r2 => hG x y v u H2 (s1.trans s2) (r1.mono s2) (r2.older s1) hy) hx⟩) h⟩
noncomputable def OpD (X : Cx) (f : Value → Value → Sem Value) (g : R → R → (R → Prop) → Prop) : Prop :=
  OpR X f (fun x y H Q => ∃ r1 r2, IsV X.K H r1 x ∧ IsV X.K H r2 y ∧ g r1 r2 fun r => ∀ v H', Same H H' → IsR X.K H H' r v → Q v H')
noncomputable def Mono2 {α : Type} (g : R → R → (α → Prop) → Prop) : Prop := ∀ x y (P Q : α → Prop), (∀ r, P r → Q r) → g x y P → g x y Q
noncomputable def wOp {α : Type} (g : R → R → (α → Prop) → Prop) (wa wb : WE) : DSt → (α → Prop) → Prop := fun τ Q => wa τ fun x => wb τ fun y => g x y Q
theorem DE.op {op : Operator} {g : R → R → (R → Prop) → Prop} (ho : OpD X (binaryOp op) g) (mg : Mono2 g) (ha : DE X H0 a wa) (hb : DE X H0 b wb) : DE X H0 (.BinOp a op b pos) (wOp g wa wb) where
  mono := fun τ P Q f h => ha.mono τ _ _ (fun x h => hb.mono τ _ _ (fun y h => mg x y P Q f h) h) h
  pe := peW (pe_op ho ha.pe hb.pe) fun σ H Q ⟨τ, hR, h⟩ => two ha hb hR h fun x y v u H' sm rx ry q =>
    ⟨x, y, rx.v, ry.v, mg x y _ _ (fun r q v H'' s2 ir => q v H'' (sm.trans s2) (ir.older sm)) q⟩
noncomputable def CmpD (X : Cx) (op : CmpOp) (g : R → R → (Bool → Prop) → Prop) : Prop :=
  OpR X (compareOp op) (fun x y H Q => ∃ r1 r2, IsV X.K H r1 x ∧ IsV X.K H r2 y ∧ g r1 r2 fun k => Q (.bl k) H)
theorem DE.cmp {op : CmpOp} {g : R → R → (Bool → Prop) → Prop} (ho : CmpD X op g) (mg : Mono2 g) (ha : DE X H0 a wa) (hb : DE X H0 b wb) (hm : behindInMarks op b = false) :
    DE X H0 (.Compare a [op] [b] pos) (fun τ Q => wOp g wa wb τ fun k => Q (.st (.bl k))) where
  mono := fun τ P Q f h => ha.mono τ _ _ (fun x h => hb.mono τ _ _ (fun y h => mg x y _ _ (fun k q => f _ q) h) h) h
  pe := peW (pe_cmpR ho ha.pe hb.pe hm) fun σ H Q ⟨τ, hR, h⟩ => two ha hb hR h fun x y v u H' sm rx ry q =>
    ⟨x, y, rx.v, ry.v, mg x y _ _ (fun r q => q _ _ sm isr_bl) q⟩
theorem DT.cmp {op : CmpOp} {g : R → R → (Bool → Prop) → Prop} (ho : CmpD X op g) (mg : Mono2 g) (ha : DE X H0 a wa) (hb : DE X H0 b wb) (hm : behindInMarks op b = false) :
    DT X H0 (.Compare a [op] [b] pos) (wOp g wa wb) where
  mono := fun τ P Q f h => ha.mono τ _ _ (fun x h => hb.mono τ _ _ (fun y h => mg x y _ _ (fun k q => f _ q) h) h) h
  pt := ptW (pt_cmpR ho ha.pe hb.pe hm) fun σ H Q ⟨τ, hR, h⟩ => two ha hb hR h fun x y v u H' sm rx ry q =>
    ⟨x, y, rx.v, ry.v, mg x y _ _ (fun r q => ⟨r, rfl, q _ sm⟩) q⟩
noncomputable def truR : R → (Bool → Prop) → Prop
  | .st .non, Q => Q false
  | .st (.bl b), Q => Q b
  | .st (.int i), Q => Q (i != 0)
  | .st (.str x), Q => x.length ≤ sizeLine ∧ Q ((x.length : Int) != 0)
  | .st (.tup ds), Q => Q (!ds.isEmpty)
  | .st (.lst ds), Q => Q (!ds.isEmpty)
  | .nw ds, Q => Q (!ds.isEmpty)
  | .bw ds, Q => Q (!ds.isEmpty)
  | .dk kvs, Q => Q (!kvs.isEmpty)
  | .dt _, _ => False
  | .ob _, _ => False
  | .ms _ _ _ _, _ => False
theorem AllS.empty {K : PySem.W.Frag} {H : Hp} {ds : List D} {xs : List V} (h : AllS K H ds xs) : ds.isEmpty = xs.isEmpty := by
  have := h.length
  cases ds <;> cases xs <;> simp_all
theorem truR_mono (r : R) (P Q : Bool → Prop) (f : ∀ r, P r → Q r) (h : truR r P) : truR r Q := by
  unfold truR at h ⊢
  split at h <;> first | exact f _ h | exact ⟨h.1, f _ h.2⟩ | exact h
theorem tru_of {K : PySem.W.Frag} {H : Hp} {r : R} {v : V} (ir : IsV K H r v) {Q : Bool → Prop} (h : truR r Q) : ∃ k, TruV K v H k ∧ Q k := by
  cases r with
  | st d =>
    cases d with
    | non => cases (show v = .non from ir); exact ⟨_, rfl, h⟩
    | bl b => cases (show v = .bl b from ir); exact ⟨_, rfl, h⟩
    | int b => cases (show v = .int b from ir); exact ⟨_, rfl, h⟩
    | str b => cases (show v = .str b from ir); exact ⟨_, ⟨h.1, rfl⟩, h.2⟩
    | tup ds =>
      have ir : IsS K H (.tup ds) v := ir
      unfold IsS at ir
      obtain ⟨p, xs, rfl, q, al⟩ := ir
      exact ⟨_, .inr (.inl ⟨xs, SqT.of q, rfl⟩), by rw [← al.empty]; exact h⟩
    | lst ds =>
      have ir : IsS K H (.lst ds) v := ir
      unfold IsS at ir
      obtain ⟨p, xs, rfl, q, al⟩ := ir
      exact ⟨_, .inl ⟨xs, q.sq, rfl⟩, by rw [← al.empty]; exact h⟩
  | nw ds => obtain ⟨p, xs, rfl, _, q, al⟩ := ir; exact ⟨_, .inl ⟨xs, SqL.of q, rfl⟩, by rw [← al.empty]; exact h⟩
  | bw ds => obtain ⟨p, xs, rfl, q, al⟩ := ir; exact ⟨_, .inl ⟨xs, SqL.of q, rfl⟩, by rw [← al.empty]; exact h⟩
  | dk ds =>
    obtain ⟨p, xs, rfl, q, al⟩ := ir
    refine ⟨_, .inr (.inr ⟨xs, q, rfl⟩), ?_⟩
    cases ds with
    | nil => cases (show xs = [] from al); exact h
    | cons d ds => obtain ⟨v, r, rfl, _⟩ := al; exact h
  | dt _ => exact h.elim
  | ob _ => exact h.elim
  | ms _ _ _ _ => exact h.elim
theorem DT.tru (ha : DE X H0 a wa) (he : ∀ whole, isTrue a X.env whole = (do let v ← whole; standAt a.pos; holding [v] (truthy v))) : DT X H0 a (fun τ Q => wa τ fun r => truR r Q) where
  mono := fun τ P Q f h => ha.mono τ _ _ (fun x h => truR_mono x P Q f h) h
  pt := ptW (pt_truth ha.pe he) fun σ H Q ⟨τ, hR, h⟩ => ⟨τ, hR, ha.mono τ _ _ (fun r q v H' sm ir => by
    obtain ⟨k, h1, h2⟩ := tru_of ir.v q
    exact ⟨k, h1, h2 H' sm⟩) h⟩
variable {ta tb tc : WT} {rest : List Expr}
noncomputable def wAnd (t u : WT) : WT := fun τ Q => t τ fun k => if k = true then u τ Q else Q false
noncomputable def wOr (t u : WT) : WT := fun τ Q => t τ fun k => if k = true then Q true else u τ Q
noncomputable def wNot (t : WT) : WT := fun τ Q => t τ fun k => Q (!k)
theorem ite_imp {c A B A' B' : Prop} [Decidable c] (f : A → A') (g : B → B') (h : if c then A else B) : if c then A' else B' := by
  split at h
  · rename_i hc; rw [if_pos hc]; exact f h
  · rename_i hc; rw [if_neg hc]; exact g h
theorem DW.and1 (ha : DT X H0 a ta) : DW X H0 (.BoolOp .And [a] pos) ta := ⟨ha.mono, pw_and1 ha.pt⟩
theorem DW.or1 (ha : DT X H0 a ta) : DW X H0 (.BoolOp .Or [a] pos) ta := ⟨ha.mono, pw_or1 ha.pt⟩
theorem DW.and (ha : DT X H0 a ta) (hb : DW X H0 (.BoolOp .And (b :: rest) pos) tb) : DW X H0 (.BoolOp .And (a :: b :: rest) pos) (wAnd ta tb) where
  mono := fun τ P Q f h => ha.mono τ _ _ (fun k h => ite_imp (hb.mono τ _ _ f) (f _) h) h
  pw := pwW (pw_and ha.pt hb.pw) fun σ H Q ⟨τ, hR, h⟩ => ⟨τ, hR, ha.mono τ _ _ (fun k q H1 s1 =>
    ite_imp (fun h => ⟨τ, hR.mono s1, hb.mono τ _ _ (fun k q H2 s2 => q H2 (s1.trans s2)) h⟩) (fun h => h H1 s1) q) h⟩
theorem DW.or (ha : DT X H0 a ta) (hb : DW X H0 (.BoolOp .Or (b :: rest) pos) tb) : DW X H0 (.BoolOp .Or (a :: b :: rest) pos) (wOr ta tb) where
  mono := fun τ P Q f h => ha.mono τ _ _ (fun k h => ite_imp (f _) (hb.mono τ _ _ f) h) h
  pw := pwW (pw_or ha.pt hb.pw) fun σ H Q ⟨τ, hR, h⟩ => ⟨τ, hR, ha.mono τ _ _ (fun k q H1 s1 =>
    ite_imp (fun h => h H1 s1) (fun h => ⟨τ, hR.mono s1, hb.mono τ _ _ (fun k q H2 s2 => q H2 (s1.trans s2)) h⟩) q) h⟩
theorem DW.t (h : DW X H0 a ta) : DT X H0 a ta := ⟨h.mono, h.pw.pt⟩
theorem DT.nt (ha : DT X H0 a ta) : DT X H0 (.UnaryOp .Not a pos) (wNot ta) where
  mono := fun τ P Q f h => ha.mono τ _ _ (fun k h => f _ h) h
  pt := ptW (pt_not ha.pt) fun σ H Q ⟨τ, hR, h⟩ => ⟨τ, hR, h⟩
noncomputable def blR : R → (Bool → Prop) → Prop
  | .st (.bl b), Q => Q b
  | _, _ => False
theorem blR_of {r : R} {P : Bool → Prop} (h : blR r P) : ∃ k, r = .st (.bl k) ∧ P k := by
  unfold blR at h
  split at h
  · exact ⟨_, rfl, h⟩
  · exact h.elim
noncomputable def wAndV (wa wb : WE) : WE := fun τ Q => wa τ fun r => blR r fun k => if k = true then wb τ Q else Q (.st (.bl false))
noncomputable def wOrV (wa wb : WE) : WE := fun τ Q => wa τ fun r => blR r fun k => if k = true then Q (.st (.bl true)) else wb τ Q
noncomputable def wNotV (wa : WE) : WE := fun τ Q => wa τ fun r => blR r fun k => Q (.st (.bl (!k)))
theorem DE.and1 (ha : DE X H0 a wa) : DE X H0 (.BoolOp .And [a] pos) wa := ⟨ha.mono, pe_one ha.pe⟩
theorem DE.and (ha : DE X H0 a wa) (hb : DE X H0 (.BoolOp .And (b :: rest) pos) wb) : DE X H0 (.BoolOp .And (a :: b :: rest) pos) (wAndV wa wb) where
  mono := fun τ P Q f h => ha.mono τ _ _ (fun r h => by
    obtain ⟨k, rfl, h⟩ := blR_of h
    exact ite_imp (hb.mono τ _ _ f) (f _) h) h
  pe := peW (pe_and ha.pe hb.pe) fun σ H Q ⟨τ, hR, h⟩ => ⟨τ, hR, ha.mono τ _ _ (fun r h v H1 s1 ir => by
    obtain ⟨k, rfl, h⟩ := blR_of h
    refine ⟨k, ir, ite_imp (fun h => ⟨τ, hR.mono s1, hb.mono τ _ _ (fun r q u H2 s2 iu => q u H2 (s1.trans s2) (iu.older s1)) h⟩) (fun h => h _ _ s1 isr_bl) h⟩) h⟩
noncomputable def wIf (t : WT) (wa wb : WE) : WE := fun τ Q => t τ fun k => if k = true then wa τ Q else wb τ Q
theorem DE.ife (hc : DT X H0 c tc) (ha : DE X H0 a wa) (hb : DE X H0 b wb) : DE X H0 (.IfExp c a b pos) (wIf tc wa wb) where
  mono := fun τ P Q f h => hc.mono τ _ _ (fun k h => ite_imp (ha.mono τ _ _ f) (hb.mono τ _ _ f) h) h
  pe := peW (pe_ifExp hc.pt ha.pe hb.pe) fun σ H Q ⟨τ, hR, h⟩ => ⟨τ, hR, hc.mono τ _ _ (fun k h H1 s1 =>
    ite_imp (fun h => ⟨τ, hR.mono s1, ha.mono τ _ _ (fun r q u H2 s2 iu => q u H2 (s1.trans s2) (iu.older s1)) h⟩) (fun h => ⟨τ, hR.mono s1, hb.mono τ _ _ (fun r q u H2 s2 iu => q u H2 (s1.trans s2) (iu.older s1)) h⟩) h) h⟩
variable {es : List Expr} {wr : WA}
noncomputable def wNil : WA := fun _ Q => Q []
noncomputable def wCons (we : WE) (wr : WA) : WA := fun τ Q => we τ fun r => wr τ fun rs => Q (r :: rs)
theorem AllR.mono {K : PySem.W.Frag} {H0 H H' : Hp} (s : Same H H') : ∀ {rs : List R} {vs : List V}, AllR K H0 H rs vs → AllR K H0 H' rs vs
  | [], _, h => h
  | r :: rs, _, h => by obtain ⟨v, t, e, q, z⟩ := h; exact ⟨v, t, e, q.mono s, AllR.mono s z⟩
theorem AllR.older {K : PySem.W.Frag} {H0 H1 H : Hp} (s : Same H0 H1) : ∀ {rs : List R} {vs : List V}, AllR K H1 H rs vs → AllR K H0 H rs vs
  | [], _, h => h
  | r :: rs, _, h => by obtain ⟨v, t, e, q, z⟩ := h; exact ⟨v, t, e, q.older s, AllR.older s z⟩
theorem DA.nil : DA X H0 [] wNil := ⟨fun τ Q h => ⟨rfl, h⟩, fun τ P Q f h => f _ h, paW pa_nil fun σ H Q ⟨τ, hR, h⟩ => h [] H (Same.refl H) rfl⟩
theorem DA.cons (ha : DE X H0 e we) (hr : DA X H0 es wr) (hs : starEach (e :: es) X.env = (false, eval e X.env) :: starEach es X.env := by rfl) : DA X H0 (e :: es) (wCons we wr) where
  len := fun τ Q h => ha.mono τ _ _ (fun r h => hr.mono τ _ _ (fun rs h => ⟨by rw [List.length_cons, List.length_cons, h.1], h.2⟩) (hr.len τ _ h)) h
  mono := fun τ P Q f h => ha.mono τ _ _ (fun r h => hr.mono τ _ _ (fun rs h => f _ h) h) h
  pa := paW (pa_cons ha.pe hr.pa hs) fun σ H Q ⟨τ, hR, h⟩ => ⟨τ, hR, ha.mono τ _ _ (fun r h v H1 s1 ir => ⟨τ, hR.mono s1, hr.mono τ _ _ (fun rs h vs H2 s2 irs =>
    h (v :: vs) H2 (s1.trans s2) ⟨v, vs, rfl, ir.mono s2, irs.older s1⟩) h⟩) h⟩
noncomputable def stAll : List R → Option (List D)
  | [] => some []
  | .st d :: rs => (stAll rs).map (d :: ·)
  | _ :: _ => none
theorem stAll_of {K : PySem.W.Frag} {H0 H : Hp} : ∀ {rs : List R} {ds : List D} {vs : List V}, stAll rs = some ds → AllR K H0 H rs vs → AllS K H ds vs
  | [], ds, vs, h, q => by cases h; cases q; exact AllS.nil
  | .st d :: rs, ds, vs, h, q => by
    obtain ⟨v, t, rfl, iv, z⟩ := q
    unfold stAll at h
    cases e : stAll rs with
    | none => rw [e] at h; cases h
    | some es => rw [e] at h; cases h; exact AllS.cons iv (stAll_of e z)
  | .nw _ :: _, _, _, h, _ => by cases h
  | .bw _ :: _, _, _, h, _ => by cases h
  | .dk _ :: _, _, _, h, _ => by cases h
  | .dt _ :: _, _, _, h, _ => by cases h
  | .ob _ :: _, _, _, h, _ => by cases h
  | .ms _ _ _ _ :: _, _, _, h, _ => by cases h
noncomputable def wTup (wr : WA) : WE := fun τ Q => wr τ fun rs => ∃ ds, stAll rs = some ds ∧ ds.length ≤ sizeLine ∧ Q (.st (.tup ds))
noncomputable def wLst (wr : WA) : WE := fun τ Q => wr τ fun rs => ∃ ds, stAll rs = some ds ∧ ds.length ≤ sizeLine ∧ Q (.nw ds)
theorem DE.tup {k : Nat} (h : DA X H0 es wr) : DE X H0 (.Tuple es k pos) (wTup wr) where
  mono := fun τ P Q f h' => h.mono τ _ _ (fun rs ⟨ds, e, l, q⟩ => ⟨ds, e, l, f _ q⟩) h'
  pe := peW (pe_tup h.pa) fun σ H Q ⟨τ, hR, h'⟩ => ⟨τ, hR, h.mono τ _ _ (fun rs ⟨ds, e, l, q⟩ vs H1 s1 irs => by
    have al := stAll_of e irs
    refine ⟨by rw [← al.length]; exact l, fun p hp => q _ _ (s1.trans (same_new hp _)) (IsS.s_tup upd_same (al.mono (Kp.of (same_new hp _)) _ _))⟩) h'⟩
theorem DE.lst (h : DA X H0 es wr) : DE X H0 (.List es pos) (wLst wr) where
  mono := fun τ P Q f h' => h.mono τ _ _ (fun rs ⟨ds, e, l, q⟩ => ⟨ds, e, l, f _ q⟩) h'
  pe := peW (pe_lst h.pa) fun σ H Q ⟨τ, hR, h'⟩ => ⟨τ, hR, h.mono τ _ _ (fun rs ⟨ds, e, l, q⟩ vs H1 s1 irs => by
    have al := stAll_of e irs
    refine ⟨by rw [← al.length]; exact l, fun p hp => q _ _ (s1.trans (same_new hp _)) ⟨p, vs, rfl, s1.free hp, upd_same, al.mono (Kp.of (same_new hp _)) _ _⟩⟩) h'⟩
end
end TK
end
section
set_option maxRecDepth 100000
namespace TK
open PySem PySem.Spec PyProof.Rows L2
theorem get_set_eq {α : Type} {l : List (Option α)} {i : Nat} {x : Option α} (h : i < l.length) : (l.set i x)[i]? = some x := by simp [h]
theorem Rep.set {K : PySem.W.Frag} {H0 H : Hp} {τ : DSt} {σ : St} {i : Nat} {s : Sl} {v : V} (h : Rep K H0 τ σ H) (q : SlR K H0 H s v)
    (ap : s.mut = true → ∀ (j : Nat) (t : Sl), j ≠ i → τ[j]? = some (some t) → t.mut = true → σ[j]? ≠ some (some v)) : Rep K H0 (τ.set i (some s)) (σ.set i (some v)) H where
  len := by rw [List.length_set, List.length_set]; exact h.len
  same := h.same
  here := fun j t e => by
    by_cases hj : j = i
    · subst hj
      by_cases hl : j < τ.length
      · rw [get_set_eq hl] at e
        cases e
        exact ⟨v, get_set_eq (by rw [← h.len]; exact hl), q⟩
      · rw [List.getElem?_eq_none_iff.mpr (by rw [List.length_set]; omega)] at e; cases e
    · rw [List.getElem?_set_ne (fun z => hj z.symm)] at e ⊢
      exact h.here j t e
  apart := fun j k s1 s2 u hne e1 e2 m1 m2 q1 q2 => by
    by_cases hj : j = i
    · subst hj
      have hk : k ≠ j := fun z => hne z.symm
      by_cases hl : j < τ.length
      · rw [get_set_eq hl] at e1
        cases e1
        rw [get_set_eq (by rw [← h.len]; exact hl)] at q1
        cases q1
        rw [List.getElem?_set_ne (fun z => hk z.symm)] at e2 q2
        exact ap m1 k s2 hk e2 m2 q2
      · rw [List.getElem?_eq_none_iff.mpr (by rw [List.length_set]; omega)] at e1; cases e1
    · by_cases hk : k = i
      · subst hk
        by_cases hl : k < τ.length
        · rw [get_set_eq hl] at e2
          cases e2
          rw [get_set_eq (by rw [← h.len]; exact hl)] at q2
          cases q2
          rw [List.getElem?_set_ne (fun z => hj z.symm)] at e1 q1
          exact ap m2 j s1 hj e1 m1 q1
        · rw [List.getElem?_eq_none_iff.mpr (by rw [List.length_set]; omega)] at e2; cases e2
      · rw [List.getElem?_set_ne (fun z => hj z.symm)] at e1 q1
        rw [List.getElem?_set_ne (fun z => hk z.symm)] at e2 q2
        exact h.apart j k s1 s2 u hne e1 e2 m1 m2 q1 q2
theorem Rep.tracked {K : PySem.W.Frag} {H0 H : Hp} {τ : DSt} {σ : St} {j : Nat} {t : Sl} {p : Addr} (h : Rep K H0 τ σ H) (e : τ[j]? = some (some t)) (m : t.mut = true) (q : σ[j]? = some (some (.ref p))) : ∃ o, H p = some o := by
  obtain ⟨v, hv, r⟩ := h.here j t e
  rw [q] at hv; cases hv
  cases t with
  | dat _ => cases m
  | bor _ => cases m
  | own ds => obtain ⟨a, xs, e, _, q, _⟩ := r; cases e; exact ⟨_, q⟩
  | dk ds => obtain ⟨a, xs, e, _, q, _⟩ := r; cases e; exact ⟨_, q⟩
  | dt ds => obtain ⟨a, xs, e, _, q, _⟩ := r; cases e; exact ⟨_, q⟩
  | ob _ => cases m
  | ins _ _ _ => obtain ⟨e, _, dx, xs, q, _⟩ := r; cases e; exact ⟨_, q⟩
noncomputable def stoR : R → (Sl → Prop) → Prop
  | .st d, Q => Q (.dat d)
  | .nw ds, Q => Q (.own ds)
  | _, _ => False
theorem stoR_of {r : R} {P : Sl → Prop} (h : stoR r P) : ∃ s, P s ∧ ((∃ d, r = .st d ∧ s = .dat d) ∨ ∃ ds, r = .nw ds ∧ s = .own ds) := by
  cases r with
  | st d => exact ⟨_, h, .inl ⟨d, rfl, rfl⟩⟩
  | nw ds => exact ⟨_, h, .inr ⟨ds, rfl, rfl⟩⟩
  | bw _ => exact h.elim
  | dk _ => exact h.elim
  | dt _ => exact h.elim
  | ob _ => exact h.elim
  | ms _ _ _ _ => exact h.elim
theorem stoR_mono {r : R} {P Q : Sl → Prop} (f : ∀ s, P s → Q s) (h : stoR r P) : stoR r Q := by
  cases r <;> first | exact f _ h | exact h
theorem Rep.store {K : PySem.W.Frag} {H0 H H1 : Hp} {τ : DSt} {σ : St} {i : Nat} {r : R} {v : V} (h : Rep K H0 τ σ H) (sm : Same H H1) (ir : IsR K H H1 r v) {P : Sl → Prop} (st : stoR r P) : ∃ s, P s ∧ Rep K H0 (τ.set i (some s)) (σ.set i (some v)) H1 := by
  obtain ⟨s, p, ⟨d, rfl, rfl⟩ | ⟨ds, rfl, rfl⟩⟩ := stoR_of st
  · exact ⟨_, p, (h.mono sm).set ir fun m => by cases m⟩
  · obtain ⟨a, xs, rfl, hn, ha, al⟩ := ir
    refine ⟨_, p, (h.mono sm).set ⟨a, xs, rfl, h.same.free hn, ha, al⟩ fun _ j t hj e m q => ?_⟩
    obtain ⟨o, ho⟩ := h.tracked e m q
    rw [hn] at ho; cases ho
section
variable {X : Cx} {H0 : Hp} {a b c e : Expr} {pos pos' : Pos} {wa wb we : WE} {tc : WT} {st : Stmt} {sts : List Stmt} {ws wt : WS}
noncomputable def wNext : WS := fun E τ => E.nx τ
noncomputable def wSeq (t u : WS) : WS := fun E τ => t { E with nx := u E } τ
theorem DSs.nil : DSs X H0 [] wNext := ⟨fun τ E F le h => le.nx τ h, pssW pss_nil fun D σ H ⟨τ, hR, h⟩ => h σ H (Kp.refl H) hR⟩
theorem DSs.cons (h1 : DS X H0 st ws) (h2 : DSs X H0 sts wt) : DSs X H0 (st :: sts) (wSeq ws wt) where
  mono := fun τ E F le h => h1.mono τ { E with nx := wt E } { F with nx := wt F } ⟨fun τ' h => h2.mono τ' E F le h, le.rt, le.bk, le.ct⟩ h
  ps := pssW (pss_cons h1.ps h2.ps) fun D σ H ⟨τ, hR, h⟩ => ⟨τ, hR, h1.mono τ { liftD X.K H0 H D with nx := wt (liftD X.K H0 H D) } _ ⟨fun τ' h σ' H' k hR' => ⟨τ', hR', h2.mono τ' _ _ (liftD_le k) h⟩, fun _ h => h, fun _ h => h, fun _ h => h⟩ h⟩
theorem DSs.one (h1 : DS X H0 st ws) : DSs X H0 [st] ws := ⟨h1.mono, pssW (pss_one h1.ps) fun D σ H h => h⟩
noncomputable def wIfS (t : WT) (ws wt : WS) : WS := fun E τ => t τ fun k => if k = true then ws E τ else wt E τ
theorem DS.ife {sa sb : List Stmt} (hc : DT X H0 c tc) (ha : DSs X H0 sa ws) (hb : DSs X H0 sb wt) : DS X H0 (.If c sa sb pos) (wIfS tc ws wt) where
  mono := fun τ E F le h => hc.mono τ _ _ (fun k h => ite_imp (ha.mono τ E F le) (hb.mono τ E F le) h) h
  ps := psW (ps_if hc.pt ha.ps hb.ps) fun D σ H ⟨τ, hR, h⟩ => ⟨τ, hR, hc.mono τ _ _ (fun k h H1 s1 =>
    ite_imp (fun h => ⟨τ, hR.mono s1, ha.mono τ _ _ (liftD_le (Kp.of s1)) h⟩) (fun h => ⟨τ, hR.mono s1, hb.mono τ _ _ (liftD_le (Kp.of s1)) h⟩) h) h⟩
noncomputable def retR : R → (R → Prop) → Prop
  | .st d, Q => Q (.st d)
  | .nw ds, Q => Q (.nw ds)
  | _, _ => False
theorem retR_of {r : R} {P : R → Prop} (h : retR r P) : P r := by
  cases r <;> first | exact h | exact h.elim
theorem retR_mono {r : R} {P Q : R → Prop} (f : ∀ s, P s → Q s) (h : retR r P) : retR r Q := by
  cases r <;> first | exact f _ h | exact h
noncomputable def wRet (we : WE) : WS := fun E τ => we τ fun r => retR r E.rt
theorem DS.ret (he : DE X H0 e we) : DS X H0 (.Return (some e) pos) (wRet we) where
  mono := fun τ E F le h => he.mono τ _ _ (fun r h => retR_mono le.rt h) h
  ps := psW (ps_ret he.pe) fun D σ H ⟨τ, hR, h⟩ => ⟨τ, hR, he.mono τ _ _ (fun r h v H1 s1 ir => retR_of (P := (liftD X.K H0 H D).rt) h v H1 (hR.same.trans s1) (ir.older hR.same)) h⟩
noncomputable def outS : Sl → (R → Prop) → Prop
  | .dat d, Q => Q (.st d)
  | .own ds, Q => Q (.nw ds)
  | _, _ => False
theorem DS.retV {i : Nat} (he : PE X e (tVar i)) : DS X H0 (.Return (some e) pos) (fun E τ => ∃ s, τ[i]? = some (some s) ∧ outS s E.rt) where
  mono := fun τ E F le ⟨s, h1, h2⟩ => ⟨s, h1, by cases s <;> first | exact le.rt _ h2 | exact h2⟩
  ps := psW (ps_ret he) fun D σ H ⟨τ, hR, s, h1, h2⟩ => by
    obtain ⟨v, hv, q⟩ := hR.here i s h1
    refine ⟨v, hv, ?_⟩
    cases s with
    | dat d => exact h2 v H hR.same q
    | own ds => exact h2 v H hR.same q
    | bor _ => exact h2.elim
    | dk _ => exact h2.elim
    | dt _ => exact h2.elim
    | ob _ => exact h2.elim
    | ins _ _ _ => exact h2.elim
noncomputable def wSet (i : Nat) (we : WE) : WS := fun E τ => we τ fun r => stoR r fun s => E.nx (τ.set i (some s))
theorem DS.set {i : Nat} {x : Str} (he : DE X H0 e we) (hN : X.N.Nodup) (hi : X.N[i]? = some x) (hx : Loc X.env.scope x) (hs : swapsWith e (some (.Name x pos')) pos.line X.env = pure false := by rfl)
    (hf : X.fn x = true ∨ X.env.scope.names.lookup x = some .local := by first | exact .inl rfl | exact .inr rfl | assumption) : DS X H0 (.Assign [.Name x pos'] e pos) (wSet i we) where
  mono := fun τ E F le h => he.mono τ _ _ (fun r h => stoR_mono (fun s h => le.nx _ h) h) h
  ps := psW (ps_set hN hi hx he.pe hs hf) fun D σ H ⟨τ, hR, h⟩ => ⟨τ, hR, he.mono τ _ _ (fun r h v H1 s1 ir => by
    obtain ⟨s, p, hR'⟩ := hR.store (i := i) s1 ir h
    exact p _ _ (Kp.of s1) hR') h⟩
noncomputable def whileN (t : WT) (wb : WS) : Nat → WS
  | 0 => fun _ _ => False
  | n + 1 => fun E τ => t τ fun k => if k = true then wb { E with nx := whileN t wb n E, ct := whileN t wb n E, bk := E.nx } τ else E.nx τ
noncomputable def wWhile (t : WT) (wb : WS) : WS := fun E τ => ∃ n, whileN t wb n E τ
theorem whileN_mono (ht : ∀ (τ : DSt) (P Q : Bool → Prop), (∀ r, P r → Q r) → tc τ P → tc τ Q) (hb : ∀ (τ : DSt) (E F : DEnds), E.Le F → ws E τ → ws F τ) :
    ∀ (n : Nat) (τ : DSt) (E F : DEnds), E.Le F → whileN tc ws n E τ → whileN tc ws n F τ
  | 0, _, _, _, _, h => h
  | n + 1, τ, E, F, le, h => ht τ _ _ (fun k h => ite_imp (hb τ { E with nx := whileN tc ws n E, ct := whileN tc ws n E, bk := E.nx } { F with nx := whileN tc ws n F, ct := whileN tc ws n F, bk := F.nx } ⟨fun τ h => whileN_mono ht hb n τ E F le h, le.rt, le.nx, fun τ h => whileN_mono ht hb n τ E F le h⟩) (le.nx τ) h) h
theorem DS.whl {body : List Stmt} (hp : PassesOwn (model X.prog X.w) X.A X.env X.xe) (hc : DT X H0 c tc) (hb : DSs X H0 body ws) : DS X H0 (.While c body [] pos) (wWhile tc ws) where
  mono := fun τ E F le ⟨n, h⟩ => ⟨n, whileN_mono hc.mono hb.mono n τ E F le h⟩
  ps := psW (ps_while hp hc.pt hb.ps) fun D σ H0' ⟨τ, hR, n, h⟩ => by
    refine ⟨fun m σ H => ∃ τ, Rep X.K H0 τ σ H ∧ Kp H0' H ∧ whileN tc ws m (liftD X.K H0 H0' D) τ, ⟨n, τ, hR, Kp.refl _, h⟩, ?_⟩
    rintro m σ H ⟨τ, hR, kp, h⟩
    cases m with
    | zero => exact h.elim
    | succ m =>
      refine ⟨τ, hR, hc.mono τ _ _ (fun k h H1 s1 => ite_imp (fun h => ?_) (fun h => h σ H1 (kp.trans (Kp.of s1)) (hR.mono s1)) h) h⟩
      refine ⟨fun σ' H' => ∃ τ, Rep X.K H0 τ σ' H' ∧ Kp H0' H' ∧ whileN tc ws m (liftD X.K H0 H0' D) τ, fun σ' H' h' => ⟨m, Nat.lt_succ_self m, h'⟩, τ, hR.mono s1, ?_⟩
      have k1 := kp.trans (Kp.of s1)
      exact hb.mono τ { liftD X.K H0 H0' D with nx := whileN tc ws m (liftD X.K H0 H0' D), ct := whileN tc ws m (liftD X.K H0 H0' D), bk := (liftD X.K H0 H0' D).nx } _
        ⟨fun τ' h' σ' H' k hR' => ⟨τ', hR', k1.trans k, h'⟩, fun _ h => h, fun τ' h' σ' H' k hR' => h' σ' H' (k1.trans k) hR', fun τ' h' σ' H' k hR' => ⟨τ', hR', k1.trans k, h'⟩⟩ h
end
noncomputable abbrev DSp := List R → R → Prop
noncomputable def argOk : R → Bool
  | .st _ => true
  | .nw _ => true
  | .bw _ => true
  | .ob _ => true
  | _ => false
noncomputable def nrm : R → R
  | .nw ds => .bw ds
  | r => r
noncomputable def liftSp (K : PySem.W.Frag) (n : Nat) (sp : DSp) : Sp := fun vs H Q _ => ∃ (rs : List R) (r : R), rs.length = n ∧ AllR K (fun _ => none) H rs vs ∧ rs.all argOk = true ∧ sp (rs.map nrm) r ∧ ∀ v H', Same H H' → IsR K H H' r v → Q v H'
noncomputable def slotOf : R → Sl
  | .st d => .dat d
  | .nw ds => .bor ds
  | .bw ds => .bor ds
  | .dk k => .dk k
  | .dt k => .dt k
  | .ob a => .ob a
  | .ms a C _ fs => .ins a C fs
noncomputable def startD (N : List Str) (rs : List R) : DSt := rs.map (fun r => some (slotOf r)) ++ List.replicate (N.length - rs.length) none
theorem AllR.length {K : PySem.W.Frag} {H0 H : Hp} : ∀ {rs : List R} {vs : List V}, AllR K H0 H rs vs → rs.length = vs.length
  | [], _, h => by cases h; rfl
  | r :: rs, _, h => by obtain ⟨v, t, rfl, _, z⟩ := h; rw [List.length_cons, List.length_cons, AllR.length z]
theorem AllR.get {K : PySem.W.Frag} {H0 H : Hp} : ∀ {rs : List R} {vs : List V} {i : Nat} {r : R}, AllR K H0 H rs vs → rs[i]? = some r → ∃ v, vs[i]? = some v ∧ IsR K H0 H r v
  | [], _, _, _, _, e => by simp at e
  | r :: rs, _, 0, r', h, e => by obtain ⟨v, t, rfl, q, z⟩ := h; simp at e; subst e; exact ⟨v, rfl, q⟩
  | r :: rs, _, i + 1, r', h, e => by
    obtain ⟨v, t, rfl, q, z⟩ := h
    obtain ⟨u, h1, h2⟩ := AllR.get (i := i) z (by simpa using e)
    exact ⟨u, by simpa using h1, h2⟩
theorem AllR.v {K : PySem.W.Frag} {H0 H : Hp} : ∀ {rs : List R} {vs : List V}, AllR K H0 H rs vs → AllR K (fun _ => none) H rs vs
  | [], _, h => h
  | r :: rs, _, h => by obtain ⟨v, t, e, q, z⟩ := h; exact ⟨v, t, e, q.v, AllR.v z⟩
theorem slotOf_nrm (r : R) : slotOf (nrm r) = slotOf r := by cases r <;> rfl
theorem startD_nrm (N : List Str) (rs : List R) : startD N (rs.map nrm) = startD N rs := by
  unfold startD
  rw [List.map_map, List.length_map]
  congr 1
  exact List.map_congr_left fun r _ => congrArg some (slotOf_nrm r)
theorem SlR.arg {K : PySem.W.Frag} {H : Hp} : ∀ {r : R} {v : V}, argOk r = true → IsV K H r v → SlR K H H (slotOf r) v
  | .st d, v, _, h => h
  | .nw ds, v, _, h => by obtain ⟨a, xs, e, _, q, t⟩ := h; exact ⟨a, xs, e, q, t⟩
  | .bw ds, v, _, h => h
  | .dk _, _, h, _ => by cases h
  | .dt _, _, h, _ => by cases h
  | .ob a, v, _, h => h
  | .ms _ _ _ _, _, h, _ => by cases h
theorem slotOf_mut : ∀ {r : R}, argOk r = true → (slotOf r).mut = false
  | .st d, _ => rfl
  | .nw ds, _ => rfl
  | .bw ds, _ => rfl
  | .dk _, h => by cases h
  | .dt _, h => by cases h
  | .ob _, _ => rfl
  | .ms _ _ _ _, h => by cases h
theorem rep_start {K : PySem.W.Frag} {H : Hp} {N : List Str} {rs : List R} {vs : List V} (al : AllR K (fun _ => none) H rs vs) (ok : rs.all argOk = true) : Rep K H (startD N rs) (L2.start N vs) H := by
  have hl := al.length
  have at_ : ∀ (i : Nat) (s : Sl), (startD N rs)[i]? = some (some s) → ∃ r, rs[i]? = some r ∧ s = slotOf r := fun i s e => by
    unfold startD at e
    by_cases hi : i < rs.length
    · rw [List.getElem?_append_left (by rw [List.length_map]; exact hi), List.getElem?_map, List.getElem?_eq_getElem hi] at e
      exact ⟨rs[i], List.getElem?_eq_getElem hi, (Option.some.inj (Option.some.inj e)).symm⟩
    · rw [List.getElem?_append_right (by rw [List.length_map]; omega)] at e
      have := List.mem_of_getElem? e
      rw [List.mem_replicate] at this
      cases this.2
  have okr : ∀ (i : Nat) (r : R), rs[i]? = some r → argOk r = true := fun i r e => List.all_eq_true.mp ok r (List.mem_of_getElem? e)
  refine ⟨?_, Same.refl H, fun i s e => ?_, fun i j s t v _ e1 _ m _ _ _ => ?_⟩
  · unfold startD L2.start
    rw [List.length_append, List.length_append, List.length_map, List.length_map, List.length_replicate, List.length_replicate, hl]
  · obtain ⟨r, hr, rfl⟩ := at_ i s e
    obtain ⟨v, hv, q⟩ := al.get hr
    refine ⟨v, ?_, SlR.arg (okr i r hr) q⟩
    unfold L2.start
    have hi : i < vs.length := by
      rcases Nat.lt_or_ge i vs.length with h | h
      · exact h
      · rw [List.getElem?_eq_none_iff.mpr h] at hv; cases hv
    rw [List.getElem?_append_left (by rw [List.length_map]; exact hi), List.getElem?_map, hv]
    rfl
  · obtain ⟨r, hr, rfl⟩ := at_ i s e1
    rw [slotOf_mut (okr i r hr)] at m; cases m
section
variable {P : Program} {w : World} {K : PySem.W.Frag} {mg : Str → Option Value} {base : Heap}
theorem Fun.okD {x qual : Str} {st : Stmt} {f : Addr} {fd : FuncData} {N ps : List Str} {k : Nat} {sp : DSp} (F : Fun K x qual st f fd) (S : FnScope N ps (defScope st))
    (hbody : ∀ (cdv : Value) (A : Around) (outer : List Env) (s : Shared) (H : Hp) (E : XK), Room k (A.deeper (envOfC qual (defScope st) s.heap.objs.size f cdv)) →
      ∃ ws, DSs (cxOf CX0 P w K mg base N qual (defScope st) f cdv A outer s H E).nox H (defBody st) ws ∧
        ∀ rs r, rs.length = ps.length → sp rs r → ws { nx := fun _ => r = .st .non, rt := fun r' => r' = r, bk := fun _ => False, ct := fun _ => False } (startD N rs)) :
    FnOk P w K mg base CX0 (k + 1) f fd ps (liftSp K ps.length sp) := by
  refine F.ok S (fun vs H Q E h => ?_) (fun cdv A outer s H vs Q E hr h => ?_)
  · obtain ⟨rs, r, hl, al, _⟩ := h
    rw [← al.length]; exact hl
  obtain ⟨rs, r, hl, al, ok, h1, h2⟩ := h
  obtain ⟨ws, hd, hw⟩ := hbody cdv A outer s H E hr
  refine ⟨_, hd.ps, startD N rs, rep_start al ok, ?_⟩
  have hw := hw (rs.map nrm) r (by rw [List.length_map]; exact hl) h1
  rw [startD_nrm] at hw
  refine hd.mono _ _ _ ⟨fun τ h σ H' _ hR => ?_, fun r' h v H' sm ir => ?_, fun _ h => False.elim h, fun _ h => False.elim h⟩ hw
  · have h : r = .st .non := h
    subst h
    exact h2 .non H' hR.same (IsS.s_non (K := K) (H := H'))
  · have h : r' = r := h
    subst h
    exact h2 v H' sm ir
end
section
variable {X : Cx} {H0 : Hp} {e : Expr} {es : List Expr} {wr : WA} {k : Nat} {f : Addr} {fd : FuncData} {ps : List Str} {sp : DSp} {x : Str} {p pos : Pos}
noncomputable def wCall (sp : DSp) (wr : WA) : WE := fun τ Q => wr τ fun rs => rs.all argOk = true ∧ ∃ r, sp (rs.map nrm) r ∧ Q r
theorem DE.call (F : FnOk X.prog X.w X.K X.mg X.base CX0 k f fd ps (liftSp X.K (e :: es).length sp)) (hr : Room k X.A) (hg : Gl X x) (hm : X.mg x = some (.ref f)) (hk : PySem.W.keepIn X.K (.ref f) = true) (hb : Binds X.K fd ps [])
    (ha : DA X H0 (e :: es) wr) (hdb : (x == ("__debug__" : Str)) = false := by decide) (he : starEach (e :: es) X.env = (false, eval e X.env) :: starEach es X.env := by rfl) (hpl : (backTo pos (starEach es X.env)).any (·.1) = false := by rfl) :
    DE X H0 (.Call (.Name x p) (e :: es) [] pos) (wCall sp wr) where
  mono := fun τ P Q f h => ha.mono τ _ _ (fun rs ⟨ok, r, h1, h2⟩ => ⟨ok, r, h1, f r h2⟩) h
  pe := peW (pe_call F hr hg hm hk hb .nil pass0 ha.pa hdb he hpl) fun σ H Q ⟨τ, hR, h⟩ => ⟨τ, hR, ha.mono τ _ _ (fun rs ⟨hln, ok, r, h1, h2⟩ vs H1 s1 irs => by
    refine ⟨rs, r, hln, ?_, ok, h1, fun v H' s2 ir => h2 v H' (s1.trans s2) (ir.older s1)⟩
    rw [List.append_nil]
    exact irs.v) (ha.len τ _ h)⟩
end
end TK
end
section
set_option maxRecDepth 100000
namespace TK
open PySem PySem.Spec PyProof.Rows L2
mutual
noncomputable def D.eq : D → D → Bool
  | .non, .non => true
  | .bl a, .bl b => a == b
  | .bl a, .int b => (if a then (1 : Int) else 0) == b
  | .int a, .bl b => a == (if b then (1 : Int) else 0)
  | .int a, .int b => a == b
  | .str a, .str b => a == b
  | .tup a, .tup b => D.eqs a b
  | .lst a, .lst b => D.eqs a b
  | _, _ => false
noncomputable def D.eqs : List D → List D → Bool
  | [], [] => true
  | x :: xs, y :: ys => D.eq x y && D.eqs xs ys
  | _, _ => false
end
mutual
noncomputable def D.depth : D → Nat
  | .tup a => D.depths a + 1
  | .lst a => D.depths a + 1
  | _ => 0
noncomputable def D.depths : List D → Nat
  | [] => 0
  | x :: xs => max (D.depth x) (D.depths xs)
end
theorem D.depths_get : ∀ {ds : List D} {i : Nat} {d : D}, ds[i]? = some d → d.depth ≤ D.depths ds
  | [], _, _, h => by simp at h
  | x :: xs, 0, d, h => by simp at h; subst h; unfold D.depths; omega
  | x :: xs, i + 1, d, h => by
    have := D.depths_get (ds := xs) (i := i) (d := d) (by simpa using h)
    unfold D.depths; omega
mutual
theorem D.eq_refl : ∀ d : D, D.eq d d = true
  | .non => by unfold D.eq; rfl
  | .bl a => by unfold D.eq; simp
  | .int a => by unfold D.eq; simp
  | .str a => by unfold D.eq; simp
  | .tup a => by unfold D.eq; exact D.eqs_refl a
  | .lst a => by unfold D.eq; exact D.eqs_refl a
theorem D.eqs_refl : ∀ ds : List D, D.eqs ds ds = true
  | [] => by unfold D.eqs; rfl
  | x :: xs => by unfold D.eqs; rw [D.eq_refl x, D.eqs_refl xs]; rfl
end
theorem D.eqs_range : ∀ (a b : List D), D.eqs a b = ((List.range (min a.length b.length)).all (fun i => match a[i]?, b[i]? with | some x, some y => D.eq x y | _, _ => true) && a.length == b.length)
  | [], [] => by unfold D.eqs; simp
  | [], y :: ys => by unfold D.eqs; simp
  | x :: xs, [] => by unfold D.eqs; simp
  | x :: xs, y :: ys => by
    unfold D.eqs
    rw [D.eqs_range xs ys]
    have e : min (x :: xs).length (y :: ys).length = min xs.length ys.length + 1 := by simp [Nat.succ_min_succ]
    rw [e, List.range_succ_eq_map, List.all_cons, List.all_map]
    simp only [List.length_cons, List.getElem?_cons_zero, Function.comp_def, List.getElem?_cons_succ]
    rw [Bool.and_assoc]
    congr 2
    simp
noncomputable def IsW (K : PySem.W.Frag) (H : Hp) (d : D) (v : V) : Prop := match d with
  | .lst ds => ∃ a xs, v = .ref a ∧ SqL K H a xs ∧ AllS K H ds xs
  | d => IsS K H d v
theorem IsS.w {K : PySem.W.Frag} {H : Hp} : ∀ {d : D} {v : V}, IsS K H d v → IsW K H d v
  | .non, _, h => h
  | .bl _, _, h => h
  | .int _, _, h => h
  | .str _, _, h => h
  | .tup _, _, h => h
  | .lst _, _, h => by unfold IsS at h; obtain ⟨a, xs, e, q, t⟩ := h; exact ⟨a, xs, e, q.sq, t⟩
noncomputable def R.d : R → Option D
  | .st d => some d
  | .nw ds => some (.lst ds)
  | .bw ds => some (.lst ds)
  | _ => none
theorem IsR.w {K : PySem.W.Frag} {H0 H : Hp} : ∀ {r : R} {v : V} {d : D}, r.d = some d → IsR K H0 H r v → IsW K H d v
  | .st d, v, _, e, h => by cases e; exact IsS.w h
  | .nw ds, v, _, e, h => by cases e; obtain ⟨a, xs, e, n, q, t⟩ := h; exact ⟨a, xs, e, SqL.of q, t⟩
  | .bw ds, v, _, e, h => by cases e; obtain ⟨a, xs, e, q, t⟩ := h; exact ⟨a, xs, e, SqL.of q, t⟩
  | .dk _, _, _, e, _ => by cases e
  | .dt _, _, _, e, _ => by cases e
  | .ob _, _, _, e, _ => by cases e
  | .ms _ _ _ _, _, _, e, _ => by cases e
theorem tup_not_list {X : Cx} {pins : List (Addr × Obj)} {σ : St} {H : Hp} {s : Shared} (I : Inv X pins σ H s) {a : Addr} {xs ys : List V} (h1 : SqT X.K H a xs) (h2 : SqL X.K H a ys) : False := by
  obtain ⟨_, _, ⟨o, e, c, _⟩, _⟩ := I.tuple h1
  obtain ⟨_, _, ⟨o', n, e', c', _⟩, _⟩ := I.list h2
  rw [e] at e'; cases e'
  rw [c] at c'; exact absurd c' (by simp)
section
variable {X : Cx} {pins : List (Addr × Obj)} {σ : St} {H : Hp} {s : Shared}
mutual
theorem IsS.inj (I : Inv X pins σ H s) : ∀ (d e : D) (v : V), IsS X.K H d v → IsS X.K H e v → d = e
  | .non, .non, v, h1, h2 => by rfl
  | .non, .bl q, v, h1, h2 => by unfold IsS at h1 h2; rw [h1] at h2; cases h2
  | .non, .int q, v, h1, h2 => by unfold IsS at h1 h2; rw [h1] at h2; cases h2
  | .non, .str q, v, h1, h2 => by unfold IsS at h1 h2; rw [h1] at h2; cases h2
  | .non, .tup q, v, h1, h2 => by unfold IsS at h1 h2; obtain ⟨_, _, e, _⟩ := h2; rw [h1] at e; cases e
  | .non, .lst q, v, h1, h2 => by unfold IsS at h1 h2; obtain ⟨_, _, e, _⟩ := h2; rw [h1] at e; cases e
  | .bl p, .non, v, h1, h2 => by unfold IsS at h1 h2; rw [h1] at h2; cases h2
  | .bl p, .bl q, v, h1, h2 => by unfold IsS at h1 h2; rw [h1] at h2; cases h2; rfl
  | .bl p, .int q, v, h1, h2 => by unfold IsS at h1 h2; rw [h1] at h2; cases h2
  | .bl p, .str q, v, h1, h2 => by unfold IsS at h1 h2; rw [h1] at h2; cases h2
  | .bl p, .tup q, v, h1, h2 => by unfold IsS at h1 h2; obtain ⟨_, _, e, _⟩ := h2; rw [h1] at e; cases e
  | .bl p, .lst q, v, h1, h2 => by unfold IsS at h1 h2; obtain ⟨_, _, e, _⟩ := h2; rw [h1] at e; cases e
  | .int p, .non, v, h1, h2 => by unfold IsS at h1 h2; rw [h1] at h2; cases h2
  | .int p, .bl q, v, h1, h2 => by unfold IsS at h1 h2; rw [h1] at h2; cases h2
  | .int p, .int q, v, h1, h2 => by unfold IsS at h1 h2; rw [h1] at h2; cases h2; rfl
  | .int p, .str q, v, h1, h2 => by unfold IsS at h1 h2; rw [h1] at h2; cases h2
  | .int p, .tup q, v, h1, h2 => by unfold IsS at h1 h2; obtain ⟨_, _, e, _⟩ := h2; rw [h1] at e; cases e
  | .int p, .lst q, v, h1, h2 => by unfold IsS at h1 h2; obtain ⟨_, _, e, _⟩ := h2; rw [h1] at e; cases e
  | .str p, .non, v, h1, h2 => by unfold IsS at h1 h2; rw [h1] at h2; cases h2
  | .str p, .bl q, v, h1, h2 => by unfold IsS at h1 h2; rw [h1] at h2; cases h2
  | .str p, .int q, v, h1, h2 => by unfold IsS at h1 h2; rw [h1] at h2; cases h2
  | .str p, .str q, v, h1, h2 => by unfold IsS at h1 h2; rw [h1] at h2; cases h2; rfl
  | .str p, .tup q, v, h1, h2 => by unfold IsS at h1 h2; obtain ⟨_, _, e, _⟩ := h2; rw [h1] at e; cases e
  | .str p, .lst q, v, h1, h2 => by unfold IsS at h1 h2; obtain ⟨_, _, e, _⟩ := h2; rw [h1] at e; cases e
  | .tup p, .non, v, h1, h2 => by unfold IsS at h1 h2; obtain ⟨_, _, e, _⟩ := h1; rw [h2] at e; cases e
  | .tup p, .bl q, v, h1, h2 => by unfold IsS at h1 h2; obtain ⟨_, _, e, _⟩ := h1; rw [h2] at e; cases e
  | .tup p, .int q, v, h1, h2 => by unfold IsS at h1 h2; obtain ⟨_, _, e, _⟩ := h1; rw [h2] at e; cases e
  | .tup p, .str q, v, h1, h2 => by unfold IsS at h1 h2; obtain ⟨_, _, e, _⟩ := h1; rw [h2] at e; cases e
  | .tup p, .tup q, v, h1, h2 => by unfold IsS at h1 h2; obtain ⟨x, xs, e1, q1, r1⟩ := h1; obtain ⟨y, ys, e2, q2, r2⟩ := h2; rw [e1] at e2; cases e2; have e := I.tuple_inj (SqT.of q1) (SqT.of q2); subst e; rw [AllS.inj I p q xs r1 r2]
  | .tup p, .lst q, v, h1, h2 => by unfold IsS at h1 h2; obtain ⟨x, xs, e1, q1, r1⟩ := h1; obtain ⟨y, ys, e2, q2, r2⟩ := h2; rw [e1] at e2; cases e2; exact absurd (tup_not_list I (SqT.of q1) q2.sq) id
  | .lst p, .non, v, h1, h2 => by unfold IsS at h1 h2; obtain ⟨_, _, e, _⟩ := h1; rw [h2] at e; cases e
  | .lst p, .bl q, v, h1, h2 => by unfold IsS at h1 h2; obtain ⟨_, _, e, _⟩ := h1; rw [h2] at e; cases e
  | .lst p, .int q, v, h1, h2 => by unfold IsS at h1 h2; obtain ⟨_, _, e, _⟩ := h1; rw [h2] at e; cases e
  | .lst p, .str q, v, h1, h2 => by unfold IsS at h1 h2; obtain ⟨_, _, e, _⟩ := h1; rw [h2] at e; cases e
  | .lst p, .tup q, v, h1, h2 => by unfold IsS at h1 h2; obtain ⟨x, xs, e1, q1, r1⟩ := h2; obtain ⟨y, ys, e2, q2, r2⟩ := h1; rw [e1] at e2; cases e2; exact absurd (tup_not_list I (SqT.of q1) q2.sq) id
  | .lst p, .lst q, v, h1, h2 => by unfold IsS at h1 h2; obtain ⟨x, xs, e1, q1, r1⟩ := h1; obtain ⟨y, ys, e2, q2, r2⟩ := h2; rw [e1] at e2; cases e2; have e := I.list_inj q1.sq q2.sq; subst e; rw [AllS.inj I p q xs r1 r2]
theorem AllS.inj (I : Inv X pins σ H s) : ∀ (ds es : List D) (vs : List V), AllS X.K H ds vs → AllS X.K H es vs → ds = es
  | [], [], _, _, _ => rfl
  | [], y :: ys, vs, h1, h2 => by unfold AllS at h1 h2; obtain ⟨_, _, e, _⟩ := h2; rw [h1] at e; cases e
  | x :: xs, [], vs, h1, h2 => by unfold AllS at h1 h2; obtain ⟨_, _, e, _⟩ := h1; rw [h2] at e; cases e
  | x :: xs, y :: ys, vs, h1, h2 => by
    unfold AllS at h1 h2
    obtain ⟨v, r, e1, q1, t1⟩ := h1
    obtain ⟨v', r', e2, q2, t2⟩ := h2
    rw [e1] at e2; cases e2
    rw [IsS.inj I x y v q1 q2, AllS.inj I xs ys r t1 t2]
end
end
section
variable {X : Cx} {pins : List (Addr × Obj)} {σ : St} {H : Hp} {s : Shared}
open PySem.SeqAt
theorem allS_at {ds : List D} {xs : List V} {its : List Value} (al : AllS X.K H ds xs) (rv : Vals xs its) {j : Nat} (h : j < its.toArray.size) : ∃ d v, ds[j]? = some d ∧ IsS X.K H d v ∧ RelV v its.toArray[j] := by
  have hl := al.length
  have hr := rv.length
  have hj : j < its.length := by simpa using h
  have hj2 : j < ds.length := by omega
  obtain ⟨v, hv, q⟩ := al.get (List.getElem?_eq_getElem hj2)
  obtain ⟨u, hu, r⟩ := rv.get hv
  have e : u = its.toArray[j] := by
    rw [List.getElem?_eq_getElem hj] at hu
    simpa using (Option.some.inj hu).symm
  exact ⟨ds[j], v, List.getElem?_eq_getElem hj2, q, e ▸ r⟩
theorem eq_of_rc (I : Inv X pins σ H s) {d1 d2 : D} {v1 v2 : V} {u1 u2 : Value} {n : Nat} (h : ∀ A : Around, A.units + n < cLine → RcAt A s u1 u2 (D.eq d1 d2)) (i1 : IsS X.K H d1 v1) (i2 : IsS X.K H d2 v2) (r1 : RelV v1 u1) (r2 : RelV v2 u2) {A : Around} (hu : A.units + n < cLine) : EqAt A s u1 u2 (D.eq d1 d2) := by
  have hA := h A hu
  by_cases e : u1 = u2
  · subst e
    have ev := r1.inj r2
    subst ev
    rw [IsS.inj I d1 d2 v1 i1 i2, D.eq_refl]
    exact EqAt.same _
  · intro prog w E Q hq
    unfold eqBool
    refine wpAny_holding ?_
    refine wpAny_ite_split (fun hab => absurd (eq_of_beq hab) e) (fun _ => ?_)
    have fin : wpAny (model prog w) A (richCompare .Eq u1 u2 >>= truthOfDropped) Q E s := wpAny_bind (hA prog w E _ (wpAny_truthy_bool hq))
    cases v1 with
    | non => cases r1; exact fin
    | bl _ => cases r1; exact fin
    | int _ => obtain ⟨t, rfl⟩ := r1; exact fin
    | str _ => obtain ⟨t, rfl⟩ := r1; exact fin
    | byt _ => obtain ⟨t, rfl⟩ := r1; exact fin
    | ref _ => cases r1; exact fin
    | ty _ => cases r1; exact fin
    | flt b => cases d1 <;> first | (cases (show V.flt b = _ from i1)) | (unfold IsS at i1; obtain ⟨_, _, z, _⟩ := i1; cases z)
theorem rc_D (I : Inv X pins σ H s) : ∀ (n : Nat) (d1 d2 : D) (v1 v2 : V) (u1 u2 : Value) (A : Around), d1.depth ≤ n → IsW X.K H d1 v1 → IsW X.K H d2 v2 → RelV v1 u1 → RelV v2 u2 → A.units + n < cLine → RcAt A s u1 u2 (D.eq d1 d2) := by
  intro n
  induction n with
  | zero =>
    intro d1 d2 v1 v2 u1 u2 A hd h1 h2 r1 r2 hu
    revert hd h1 h2 r1 r2 hu
    exact match d1, d2, v1, v2, u1, u2, A with
    | .non, .non, v1, v2, u1, u2, A => fun hd h1 h2 r1 r2 hu => by
      cases (show v1 = .non from h1); cases r1
      cases (show v2 = .non from h2); cases r2
      unfold D.eq
      exact RcAt.none_none
    | .non, .bl q, v1, v2, u1, u2, A => fun hd h1 h2 r1 r2 hu => by
      cases (show v1 = .non from h1); cases r1
      cases (show v2 = .bl q from h2); cases r2
      unfold D.eq
      exact RcAt.none_bool  q
    | .non, .int q, v1, v2, u1, u2, A => fun hd h1 h2 r1 r2 hu => by
      cases (show v1 = .non from h1); cases r1
      cases (show v2 = .int q from h2); obtain ⟨t2, rfl⟩ := r2
      unfold D.eq
      exact RcAt.none_int  q t2
    | .non, .str q, v1, v2, u1, u2, A => fun hd h1 h2 r1 r2 hu => by
      cases (show v1 = .non from h1); cases r1
      cases (show v2 = .str q from h2); obtain ⟨t2, rfl⟩ := r2
      unfold D.eq
      exact RcAt.none_str  q t2
    | .non, .tup q, v1, v2, u1, u2, A => fun hd h1 h2 r1 r2 hu => by
      cases (show v1 = .non from h1); cases r1
      have h2 : IsS X.K H (.tup q) v2 := h2; unfold IsS at h2; obtain ⟨a2, xs2, rfl, sq2, al2⟩ := h2; cases r2; obtain ⟨its2, rv2, pl2, hz2⟩ := I.tuple (SqT.of sq2)
      unfold D.eq
      exact RcAt.none_tuple  (pl2) (by omega)
    | .non, .lst q, v1, v2, u1, u2, A => fun hd h1 h2 r1 r2 hu => by
      cases (show v1 = .non from h1); cases r1
      obtain ⟨a2, xs2, rfl, sq2, al2⟩ := h2; cases r2; obtain ⟨its2, rv2, pl2, hz2⟩ := I.list sq2
      unfold D.eq
      exact RcAt.none_list  (pl2.isList) (by omega)
    | .bl p, .non, v1, v2, u1, u2, A => fun hd h1 h2 r1 r2 hu => by
      cases (show v1 = .bl p from h1); cases r1
      cases (show v2 = .non from h2); cases r2
      unfold D.eq
      exact RcAt.bool_none p 
    | .bl p, .bl q, v1, v2, u1, u2, A => fun hd h1 h2 r1 r2 hu => by
      cases (show v1 = .bl p from h1); cases r1
      cases (show v2 = .bl q from h2); cases r2
      unfold D.eq
      exact RcAt.bool_bool p q
    | .bl p, .int q, v1, v2, u1, u2, A => fun hd h1 h2 r1 r2 hu => by
      cases (show v1 = .bl p from h1); cases r1
      cases (show v2 = .int q from h2); obtain ⟨t2, rfl⟩ := r2
      unfold D.eq
      exact RcAt.bool_int p q t2
    | .bl p, .str q, v1, v2, u1, u2, A => fun hd h1 h2 r1 r2 hu => by
      cases (show v1 = .bl p from h1); cases r1
      cases (show v2 = .str q from h2); obtain ⟨t2, rfl⟩ := r2
      unfold D.eq
      exact RcAt.bool_str p q t2
    | .bl p, .tup q, v1, v2, u1, u2, A => fun hd h1 h2 r1 r2 hu => by
      cases (show v1 = .bl p from h1); cases r1
      have h2 : IsS X.K H (.tup q) v2 := h2; unfold IsS at h2; obtain ⟨a2, xs2, rfl, sq2, al2⟩ := h2; cases r2; obtain ⟨its2, rv2, pl2, hz2⟩ := I.tuple (SqT.of sq2)
      unfold D.eq
      exact RcAt.bool_tuple p (pl2) (by omega)
    | .bl p, .lst q, v1, v2, u1, u2, A => fun hd h1 h2 r1 r2 hu => by
      cases (show v1 = .bl p from h1); cases r1
      obtain ⟨a2, xs2, rfl, sq2, al2⟩ := h2; cases r2; obtain ⟨its2, rv2, pl2, hz2⟩ := I.list sq2
      unfold D.eq
      exact RcAt.bool_list p (pl2.isList) (by omega)
    | .int p, .non, v1, v2, u1, u2, A => fun hd h1 h2 r1 r2 hu => by
      cases (show v1 = .int p from h1); obtain ⟨t1, rfl⟩ := r1
      cases (show v2 = .non from h2); cases r2
      unfold D.eq
      exact RcAt.int_none p t1 
    | .int p, .bl q, v1, v2, u1, u2, A => fun hd h1 h2 r1 r2 hu => by
      cases (show v1 = .int p from h1); obtain ⟨t1, rfl⟩ := r1
      cases (show v2 = .bl q from h2); cases r2
      unfold D.eq
      exact RcAt.int_bool p t1 q
    | .int p, .int q, v1, v2, u1, u2, A => fun hd h1 h2 r1 r2 hu => by
      cases (show v1 = .int p from h1); obtain ⟨t1, rfl⟩ := r1
      cases (show v2 = .int q from h2); obtain ⟨t2, rfl⟩ := r2
      unfold D.eq
      exact RcAt.int_int p t1 q t2
    | .int p, .str q, v1, v2, u1, u2, A => fun hd h1 h2 r1 r2 hu => by
      cases (show v1 = .int p from h1); obtain ⟨t1, rfl⟩ := r1
      cases (show v2 = .str q from h2); obtain ⟨t2, rfl⟩ := r2
      unfold D.eq
      exact RcAt.int_str p t1 q t2
    | .int p, .tup q, v1, v2, u1, u2, A => fun hd h1 h2 r1 r2 hu => by
      cases (show v1 = .int p from h1); obtain ⟨t1, rfl⟩ := r1
      have h2 : IsS X.K H (.tup q) v2 := h2; unfold IsS at h2; obtain ⟨a2, xs2, rfl, sq2, al2⟩ := h2; cases r2; obtain ⟨its2, rv2, pl2, hz2⟩ := I.tuple (SqT.of sq2)
      unfold D.eq
      exact RcAt.int_tuple p t1 (pl2) (by omega)
    | .int p, .lst q, v1, v2, u1, u2, A => fun hd h1 h2 r1 r2 hu => by
      cases (show v1 = .int p from h1); obtain ⟨t1, rfl⟩ := r1
      obtain ⟨a2, xs2, rfl, sq2, al2⟩ := h2; cases r2; obtain ⟨its2, rv2, pl2, hz2⟩ := I.list sq2
      unfold D.eq
      exact RcAt.int_list p t1 (pl2.isList) (by omega)
    | .str p, .non, v1, v2, u1, u2, A => fun hd h1 h2 r1 r2 hu => by
      cases (show v1 = .str p from h1); obtain ⟨t1, rfl⟩ := r1
      cases (show v2 = .non from h2); cases r2
      unfold D.eq
      exact RcAt.str_none p t1 
    | .str p, .bl q, v1, v2, u1, u2, A => fun hd h1 h2 r1 r2 hu => by
      cases (show v1 = .str p from h1); obtain ⟨t1, rfl⟩ := r1
      cases (show v2 = .bl q from h2); cases r2
      unfold D.eq
      exact RcAt.str_bool p t1 q
    | .str p, .int q, v1, v2, u1, u2, A => fun hd h1 h2 r1 r2 hu => by
      cases (show v1 = .str p from h1); obtain ⟨t1, rfl⟩ := r1
      cases (show v2 = .int q from h2); obtain ⟨t2, rfl⟩ := r2
      unfold D.eq
      exact RcAt.str_int p t1 q t2
    | .str p, .str q, v1, v2, u1, u2, A => fun hd h1 h2 r1 r2 hu => by
      cases (show v1 = .str p from h1); obtain ⟨t1, rfl⟩ := r1
      cases (show v2 = .str q from h2); obtain ⟨t2, rfl⟩ := r2
      unfold D.eq
      exact RcAt.str_str p t1 q t2
    | .str p, .tup q, v1, v2, u1, u2, A => fun hd h1 h2 r1 r2 hu => by
      cases (show v1 = .str p from h1); obtain ⟨t1, rfl⟩ := r1
      have h2 : IsS X.K H (.tup q) v2 := h2; unfold IsS at h2; obtain ⟨a2, xs2, rfl, sq2, al2⟩ := h2; cases r2; obtain ⟨its2, rv2, pl2, hz2⟩ := I.tuple (SqT.of sq2)
      unfold D.eq
      exact RcAt.str_tuple p t1 (pl2) (by omega)
    | .str p, .lst q, v1, v2, u1, u2, A => fun hd h1 h2 r1 r2 hu => by
      cases (show v1 = .str p from h1); obtain ⟨t1, rfl⟩ := r1
      obtain ⟨a2, xs2, rfl, sq2, al2⟩ := h2; cases r2; obtain ⟨its2, rv2, pl2, hz2⟩ := I.list sq2
      unfold D.eq
      exact RcAt.str_list p t1 (pl2.isList) (by omega)
    | .tup p, .non, v1, v2, u1, u2, A => fun hd h1 h2 r1 r2 hu => by
      have h1 : IsS X.K H (.tup p) v1 := h1; unfold IsS at h1; obtain ⟨a1, xs1, rfl, sq1, al1⟩ := h1; cases r1; obtain ⟨its1, rv1, pl1, hz1⟩ := I.tuple (SqT.of sq1)
      cases (show v2 = .non from h2); cases r2
      unfold D.eq
      exact RcAt.tuple_none  (pl1) (by omega)
    | .tup p, .bl q, v1, v2, u1, u2, A => fun hd h1 h2 r1 r2 hu => by
      have h1 : IsS X.K H (.tup p) v1 := h1; unfold IsS at h1; obtain ⟨a1, xs1, rfl, sq1, al1⟩ := h1; cases r1; obtain ⟨its1, rv1, pl1, hz1⟩ := I.tuple (SqT.of sq1)
      cases (show v2 = .bl q from h2); cases r2
      unfold D.eq
      exact RcAt.tuple_bool q (pl1) (by omega)
    | .tup p, .int q, v1, v2, u1, u2, A => fun hd h1 h2 r1 r2 hu => by
      have h1 : IsS X.K H (.tup p) v1 := h1; unfold IsS at h1; obtain ⟨a1, xs1, rfl, sq1, al1⟩ := h1; cases r1; obtain ⟨its1, rv1, pl1, hz1⟩ := I.tuple (SqT.of sq1)
      cases (show v2 = .int q from h2); obtain ⟨t2, rfl⟩ := r2
      unfold D.eq
      exact RcAt.tuple_int q t2 (pl1) (by omega)
    | .tup p, .str q, v1, v2, u1, u2, A => fun hd h1 h2 r1 r2 hu => by
      have h1 : IsS X.K H (.tup p) v1 := h1; unfold IsS at h1; obtain ⟨a1, xs1, rfl, sq1, al1⟩ := h1; cases r1; obtain ⟨its1, rv1, pl1, hz1⟩ := I.tuple (SqT.of sq1)
      cases (show v2 = .str q from h2); obtain ⟨t2, rfl⟩ := r2
      unfold D.eq
      exact RcAt.tuple_str q t2 (pl1) (by omega)
    | .tup p, .tup q, v1, v2, u1, u2, A => fun hd h1 h2 r1 r2 hu => by
      have h1 : IsS X.K H (.tup p) v1 := h1; unfold IsS at h1; obtain ⟨a1, xs1, rfl, sq1, al1⟩ := h1; cases r1; obtain ⟨its1, rv1, pl1, hz1⟩ := I.tuple (SqT.of sq1)
      have h2 : IsS X.K H (.tup q) v2 := h2; unfold IsS at h2; obtain ⟨a2, xs2, rfl, sq2, al2⟩ := h2; cases r2; obtain ⟨its2, rv2, pl2, hz2⟩ := I.tuple (SqT.of sq2)
      unfold D.depth at hd; omega
    | .tup p, .lst q, v1, v2, u1, u2, A => fun hd h1 h2 r1 r2 hu => by
      have h1 : IsS X.K H (.tup p) v1 := h1; unfold IsS at h1; obtain ⟨a1, xs1, rfl, sq1, al1⟩ := h1; cases r1; obtain ⟨its1, rv1, pl1, hz1⟩ := I.tuple (SqT.of sq1)
      obtain ⟨a2, xs2, rfl, sq2, al2⟩ := h2; cases r2; obtain ⟨its2, rv2, pl2, hz2⟩ := I.list sq2
      unfold D.eq
      exact RcAt.tuple_list (pl1) (pl2.isList) (by omega)
    | .lst p, .non, v1, v2, u1, u2, A => fun hd h1 h2 r1 r2 hu => by
      obtain ⟨a1, xs1, rfl, sq1, al1⟩ := h1; cases r1; obtain ⟨its1, rv1, pl1, hz1⟩ := I.list sq1
      cases (show v2 = .non from h2); cases r2
      unfold D.eq
      exact RcAt.list_none  (pl1.isList) (by omega)
    | .lst p, .bl q, v1, v2, u1, u2, A => fun hd h1 h2 r1 r2 hu => by
      obtain ⟨a1, xs1, rfl, sq1, al1⟩ := h1; cases r1; obtain ⟨its1, rv1, pl1, hz1⟩ := I.list sq1
      cases (show v2 = .bl q from h2); cases r2
      unfold D.eq
      exact RcAt.list_bool q (pl1.isList) (by omega)
    | .lst p, .int q, v1, v2, u1, u2, A => fun hd h1 h2 r1 r2 hu => by
      obtain ⟨a1, xs1, rfl, sq1, al1⟩ := h1; cases r1; obtain ⟨its1, rv1, pl1, hz1⟩ := I.list sq1
      cases (show v2 = .int q from h2); obtain ⟨t2, rfl⟩ := r2
      unfold D.eq
      exact RcAt.list_int q t2 (pl1.isList) (by omega)
    | .lst p, .str q, v1, v2, u1, u2, A => fun hd h1 h2 r1 r2 hu => by
      obtain ⟨a1, xs1, rfl, sq1, al1⟩ := h1; cases r1; obtain ⟨its1, rv1, pl1, hz1⟩ := I.list sq1
      cases (show v2 = .str q from h2); obtain ⟨t2, rfl⟩ := r2
      unfold D.eq
      exact RcAt.list_str q t2 (pl1.isList) (by omega)
    | .lst p, .tup q, v1, v2, u1, u2, A => fun hd h1 h2 r1 r2 hu => by
      obtain ⟨a1, xs1, rfl, sq1, al1⟩ := h1; cases r1; obtain ⟨its1, rv1, pl1, hz1⟩ := I.list sq1
      have h2 : IsS X.K H (.tup q) v2 := h2; unfold IsS at h2; obtain ⟨a2, xs2, rfl, sq2, al2⟩ := h2; cases r2; obtain ⟨its2, rv2, pl2, hz2⟩ := I.tuple (SqT.of sq2)
      unfold D.eq
      exact RcAt.list_tuple (pl1.isList) (pl2) (by omega)
    | .lst p, .lst q, v1, v2, u1, u2, A => fun hd h1 h2 r1 r2 hu => by
      obtain ⟨a1, xs1, rfl, sq1, al1⟩ := h1; cases r1; obtain ⟨its1, rv1, pl1, hz1⟩ := I.list sq1
      obtain ⟨a2, xs2, rfl, sq2, al2⟩ := h2; cases r2; obtain ⟨its2, rv2, pl2, hz2⟩ := I.list sq2
      unfold D.depth at hd; omega
  | succ n ih =>
    intro d1 d2 v1 v2 u1 u2 A hd h1 h2 r1 r2 hu
    revert hd h1 h2 r1 r2 hu
    exact match d1, d2, v1, v2, u1, u2, A with
    | .non, .non, v1, v2, u1, u2, A => fun hd h1 h2 r1 r2 hu => by
      cases (show v1 = .non from h1); cases r1
      cases (show v2 = .non from h2); cases r2
      unfold D.eq
      exact RcAt.none_none
    | .non, .bl q, v1, v2, u1, u2, A => fun hd h1 h2 r1 r2 hu => by
      cases (show v1 = .non from h1); cases r1
      cases (show v2 = .bl q from h2); cases r2
      unfold D.eq
      exact RcAt.none_bool  q
    | .non, .int q, v1, v2, u1, u2, A => fun hd h1 h2 r1 r2 hu => by
      cases (show v1 = .non from h1); cases r1
      cases (show v2 = .int q from h2); obtain ⟨t2, rfl⟩ := r2
      unfold D.eq
      exact RcAt.none_int  q t2
    | .non, .str q, v1, v2, u1, u2, A => fun hd h1 h2 r1 r2 hu => by
      cases (show v1 = .non from h1); cases r1
      cases (show v2 = .str q from h2); obtain ⟨t2, rfl⟩ := r2
      unfold D.eq
      exact RcAt.none_str  q t2
    | .non, .tup q, v1, v2, u1, u2, A => fun hd h1 h2 r1 r2 hu => by
      cases (show v1 = .non from h1); cases r1
      have h2 : IsS X.K H (.tup q) v2 := h2; unfold IsS at h2; obtain ⟨a2, xs2, rfl, sq2, al2⟩ := h2; cases r2; obtain ⟨its2, rv2, pl2, hz2⟩ := I.tuple (SqT.of sq2)
      unfold D.eq
      exact RcAt.none_tuple  (pl2) (by omega)
    | .non, .lst q, v1, v2, u1, u2, A => fun hd h1 h2 r1 r2 hu => by
      cases (show v1 = .non from h1); cases r1
      obtain ⟨a2, xs2, rfl, sq2, al2⟩ := h2; cases r2; obtain ⟨its2, rv2, pl2, hz2⟩ := I.list sq2
      unfold D.eq
      exact RcAt.none_list  (pl2.isList) (by omega)
    | .bl p, .non, v1, v2, u1, u2, A => fun hd h1 h2 r1 r2 hu => by
      cases (show v1 = .bl p from h1); cases r1
      cases (show v2 = .non from h2); cases r2
      unfold D.eq
      exact RcAt.bool_none p 
    | .bl p, .bl q, v1, v2, u1, u2, A => fun hd h1 h2 r1 r2 hu => by
      cases (show v1 = .bl p from h1); cases r1
      cases (show v2 = .bl q from h2); cases r2
      unfold D.eq
      exact RcAt.bool_bool p q
    | .bl p, .int q, v1, v2, u1, u2, A => fun hd h1 h2 r1 r2 hu => by
      cases (show v1 = .bl p from h1); cases r1
      cases (show v2 = .int q from h2); obtain ⟨t2, rfl⟩ := r2
      unfold D.eq
      exact RcAt.bool_int p q t2
    | .bl p, .str q, v1, v2, u1, u2, A => fun hd h1 h2 r1 r2 hu => by
      cases (show v1 = .bl p from h1); cases r1
      cases (show v2 = .str q from h2); obtain ⟨t2, rfl⟩ := r2
      unfold D.eq
      exact RcAt.bool_str p q t2
    | .bl p, .tup q, v1, v2, u1, u2, A => fun hd h1 h2 r1 r2 hu => by
      cases (show v1 = .bl p from h1); cases r1
      have h2 : IsS X.K H (.tup q) v2 := h2; unfold IsS at h2; obtain ⟨a2, xs2, rfl, sq2, al2⟩ := h2; cases r2; obtain ⟨its2, rv2, pl2, hz2⟩ := I.tuple (SqT.of sq2)
      unfold D.eq
      exact RcAt.bool_tuple p (pl2) (by omega)
    | .bl p, .lst q, v1, v2, u1, u2, A => fun hd h1 h2 r1 r2 hu => by
      cases (show v1 = .bl p from h1); cases r1
      obtain ⟨a2, xs2, rfl, sq2, al2⟩ := h2; cases r2; obtain ⟨its2, rv2, pl2, hz2⟩ := I.list sq2
      unfold D.eq
      exact RcAt.bool_list p (pl2.isList) (by omega)
    | .int p, .non, v1, v2, u1, u2, A => fun hd h1 h2 r1 r2 hu => by
      cases (show v1 = .int p from h1); obtain ⟨t1, rfl⟩ := r1
      cases (show v2 = .non from h2); cases r2
      unfold D.eq
      exact RcAt.int_none p t1 
    | .int p, .bl q, v1, v2, u1, u2, A => fun hd h1 h2 r1 r2 hu => by
      cases (show v1 = .int p from h1); obtain ⟨t1, rfl⟩ := r1
      cases (show v2 = .bl q from h2); cases r2
      unfold D.eq
      exact RcAt.int_bool p t1 q
    | .int p, .int q, v1, v2, u1, u2, A => fun hd h1 h2 r1 r2 hu => by
      cases (show v1 = .int p from h1); obtain ⟨t1, rfl⟩ := r1
      cases (show v2 = .int q from h2); obtain ⟨t2, rfl⟩ := r2
      unfold D.eq
      exact RcAt.int_int p t1 q t2
    | .int p, .str q, v1, v2, u1, u2, A => fun hd h1 h2 r1 r2 hu => by
      cases (show v1 = .int p from h1); obtain ⟨t1, rfl⟩ := r1
      cases (show v2 = .str q from h2); obtain ⟨t2, rfl⟩ := r2
      unfold D.eq
      exact RcAt.int_str p t1 q t2
    | .int p, .tup q, v1, v2, u1, u2, A => fun hd h1 h2 r1 r2 hu => by
      cases (show v1 = .int p from h1); obtain ⟨t1, rfl⟩ := r1
      have h2 : IsS X.K H (.tup q) v2 := h2; unfold IsS at h2; obtain ⟨a2, xs2, rfl, sq2, al2⟩ := h2; cases r2; obtain ⟨its2, rv2, pl2, hz2⟩ := I.tuple (SqT.of sq2)
      unfold D.eq
      exact RcAt.int_tuple p t1 (pl2) (by omega)
    | .int p, .lst q, v1, v2, u1, u2, A => fun hd h1 h2 r1 r2 hu => by
      cases (show v1 = .int p from h1); obtain ⟨t1, rfl⟩ := r1
      obtain ⟨a2, xs2, rfl, sq2, al2⟩ := h2; cases r2; obtain ⟨its2, rv2, pl2, hz2⟩ := I.list sq2
      unfold D.eq
      exact RcAt.int_list p t1 (pl2.isList) (by omega)
    | .str p, .non, v1, v2, u1, u2, A => fun hd h1 h2 r1 r2 hu => by
      cases (show v1 = .str p from h1); obtain ⟨t1, rfl⟩ := r1
      cases (show v2 = .non from h2); cases r2
      unfold D.eq
      exact RcAt.str_none p t1 
    | .str p, .bl q, v1, v2, u1, u2, A => fun hd h1 h2 r1 r2 hu => by
      cases (show v1 = .str p from h1); obtain ⟨t1, rfl⟩ := r1
      cases (show v2 = .bl q from h2); cases r2
      unfold D.eq
      exact RcAt.str_bool p t1 q
    | .str p, .int q, v1, v2, u1, u2, A => fun hd h1 h2 r1 r2 hu => by
      cases (show v1 = .str p from h1); obtain ⟨t1, rfl⟩ := r1
      cases (show v2 = .int q from h2); obtain ⟨t2, rfl⟩ := r2
      unfold D.eq
      exact RcAt.str_int p t1 q t2
    | .str p, .str q, v1, v2, u1, u2, A => fun hd h1 h2 r1 r2 hu => by
      cases (show v1 = .str p from h1); obtain ⟨t1, rfl⟩ := r1
      cases (show v2 = .str q from h2); obtain ⟨t2, rfl⟩ := r2
      unfold D.eq
      exact RcAt.str_str p t1 q t2
    | .str p, .tup q, v1, v2, u1, u2, A => fun hd h1 h2 r1 r2 hu => by
      cases (show v1 = .str p from h1); obtain ⟨t1, rfl⟩ := r1
      have h2 : IsS X.K H (.tup q) v2 := h2; unfold IsS at h2; obtain ⟨a2, xs2, rfl, sq2, al2⟩ := h2; cases r2; obtain ⟨its2, rv2, pl2, hz2⟩ := I.tuple (SqT.of sq2)
      unfold D.eq
      exact RcAt.str_tuple p t1 (pl2) (by omega)
    | .str p, .lst q, v1, v2, u1, u2, A => fun hd h1 h2 r1 r2 hu => by
      cases (show v1 = .str p from h1); obtain ⟨t1, rfl⟩ := r1
      obtain ⟨a2, xs2, rfl, sq2, al2⟩ := h2; cases r2; obtain ⟨its2, rv2, pl2, hz2⟩ := I.list sq2
      unfold D.eq
      exact RcAt.str_list p t1 (pl2.isList) (by omega)
    | .tup p, .non, v1, v2, u1, u2, A => fun hd h1 h2 r1 r2 hu => by
      have h1 : IsS X.K H (.tup p) v1 := h1; unfold IsS at h1; obtain ⟨a1, xs1, rfl, sq1, al1⟩ := h1; cases r1; obtain ⟨its1, rv1, pl1, hz1⟩ := I.tuple (SqT.of sq1)
      cases (show v2 = .non from h2); cases r2
      unfold D.eq
      exact RcAt.tuple_none  (pl1) (by omega)
    | .tup p, .bl q, v1, v2, u1, u2, A => fun hd h1 h2 r1 r2 hu => by
      have h1 : IsS X.K H (.tup p) v1 := h1; unfold IsS at h1; obtain ⟨a1, xs1, rfl, sq1, al1⟩ := h1; cases r1; obtain ⟨its1, rv1, pl1, hz1⟩ := I.tuple (SqT.of sq1)
      cases (show v2 = .bl q from h2); cases r2
      unfold D.eq
      exact RcAt.tuple_bool q (pl1) (by omega)
    | .tup p, .int q, v1, v2, u1, u2, A => fun hd h1 h2 r1 r2 hu => by
      have h1 : IsS X.K H (.tup p) v1 := h1; unfold IsS at h1; obtain ⟨a1, xs1, rfl, sq1, al1⟩ := h1; cases r1; obtain ⟨its1, rv1, pl1, hz1⟩ := I.tuple (SqT.of sq1)
      cases (show v2 = .int q from h2); obtain ⟨t2, rfl⟩ := r2
      unfold D.eq
      exact RcAt.tuple_int q t2 (pl1) (by omega)
    | .tup p, .str q, v1, v2, u1, u2, A => fun hd h1 h2 r1 r2 hu => by
      have h1 : IsS X.K H (.tup p) v1 := h1; unfold IsS at h1; obtain ⟨a1, xs1, rfl, sq1, al1⟩ := h1; cases r1; obtain ⟨its1, rv1, pl1, hz1⟩ := I.tuple (SqT.of sq1)
      cases (show v2 = .str q from h2); obtain ⟨t2, rfl⟩ := r2
      unfold D.eq
      exact RcAt.tuple_str q t2 (pl1) (by omega)
    | .tup p, .tup q, v1, v2, u1, u2, A => fun hd h1 h2 r1 r2 hu => by
      have h1 : IsS X.K H (.tup p) v1 := h1; unfold IsS at h1; obtain ⟨a1, xs1, rfl, sq1, al1⟩ := h1; cases r1; obtain ⟨its1, rv1, pl1, hz1⟩ := I.tuple (SqT.of sq1)
      have h2 : IsS X.K H (.tup q) v2 := h2; unfold IsS at h2; obtain ⟨a2, xs2, rfl, sq2, al2⟩ := h2; cases r2; obtain ⟨its2, rv2, pl2, hz2⟩ := I.tuple (SqT.of sq2)
      have hd : D.depths p + 1 ≤ n + 1 := by unfold D.depth at hd; exact hd
      refine (show RcAt A s (.ref a1) (.ref a2) _ from ?_)
      have l1 : its1.toArray.size = p.length := by have := al1.length; have := rv1.length; simp; omega
      have l2 : its2.toArray.size = q.length := by have := al2.length; have := rv2.length; simp; omega
      have k := RcAt.tuples (A := A) (s := s) (e := fun i => match p[i]?, q[i]? with | some x, some y => D.eq x y | _, _ => true) pl1 pl2 (by omega) (fun j hj1 hj2 => by
        obtain ⟨d1, v1, e1, i1, w1⟩ := allS_at al1 rv1 hj1
        obtain ⟨d2, v2, e2, i2, w2⟩ := allS_at al2 rv2 hj2
        simp only [e1, e2]
        exact eq_of_rc I (fun A => ih d1 d2 v1 v2 _ _ A (by have := D.depths_get e1; omega) i1.w i2.w w1 w2) i1 i2 w1 w2 (by simp only [Around.in1_units]; omega))
      rw [l1, l2, ← D.eqs_range] at k
      unfold D.eq; exact k
    | .tup p, .lst q, v1, v2, u1, u2, A => fun hd h1 h2 r1 r2 hu => by
      have h1 : IsS X.K H (.tup p) v1 := h1; unfold IsS at h1; obtain ⟨a1, xs1, rfl, sq1, al1⟩ := h1; cases r1; obtain ⟨its1, rv1, pl1, hz1⟩ := I.tuple (SqT.of sq1)
      obtain ⟨a2, xs2, rfl, sq2, al2⟩ := h2; cases r2; obtain ⟨its2, rv2, pl2, hz2⟩ := I.list sq2
      unfold D.eq
      exact RcAt.tuple_list (pl1) (pl2.isList) (by omega)
    | .lst p, .non, v1, v2, u1, u2, A => fun hd h1 h2 r1 r2 hu => by
      obtain ⟨a1, xs1, rfl, sq1, al1⟩ := h1; cases r1; obtain ⟨its1, rv1, pl1, hz1⟩ := I.list sq1
      cases (show v2 = .non from h2); cases r2
      unfold D.eq
      exact RcAt.list_none  (pl1.isList) (by omega)
    | .lst p, .bl q, v1, v2, u1, u2, A => fun hd h1 h2 r1 r2 hu => by
      obtain ⟨a1, xs1, rfl, sq1, al1⟩ := h1; cases r1; obtain ⟨its1, rv1, pl1, hz1⟩ := I.list sq1
      cases (show v2 = .bl q from h2); cases r2
      unfold D.eq
      exact RcAt.list_bool q (pl1.isList) (by omega)
    | .lst p, .int q, v1, v2, u1, u2, A => fun hd h1 h2 r1 r2 hu => by
      obtain ⟨a1, xs1, rfl, sq1, al1⟩ := h1; cases r1; obtain ⟨its1, rv1, pl1, hz1⟩ := I.list sq1
      cases (show v2 = .int q from h2); obtain ⟨t2, rfl⟩ := r2
      unfold D.eq
      exact RcAt.list_int q t2 (pl1.isList) (by omega)
    | .lst p, .str q, v1, v2, u1, u2, A => fun hd h1 h2 r1 r2 hu => by
      obtain ⟨a1, xs1, rfl, sq1, al1⟩ := h1; cases r1; obtain ⟨its1, rv1, pl1, hz1⟩ := I.list sq1
      cases (show v2 = .str q from h2); obtain ⟨t2, rfl⟩ := r2
      unfold D.eq
      exact RcAt.list_str q t2 (pl1.isList) (by omega)
    | .lst p, .tup q, v1, v2, u1, u2, A => fun hd h1 h2 r1 r2 hu => by
      obtain ⟨a1, xs1, rfl, sq1, al1⟩ := h1; cases r1; obtain ⟨its1, rv1, pl1, hz1⟩ := I.list sq1
      have h2 : IsS X.K H (.tup q) v2 := h2; unfold IsS at h2; obtain ⟨a2, xs2, rfl, sq2, al2⟩ := h2; cases r2; obtain ⟨its2, rv2, pl2, hz2⟩ := I.tuple (SqT.of sq2)
      unfold D.eq
      exact RcAt.list_tuple (pl1.isList) (pl2) (by omega)
    | .lst p, .lst q, v1, v2, u1, u2, A => fun hd h1 h2 r1 r2 hu => by
      obtain ⟨a1, xs1, rfl, sq1, al1⟩ := h1; cases r1; obtain ⟨its1, rv1, pl1, hz1⟩ := I.list sq1
      obtain ⟨a2, xs2, rfl, sq2, al2⟩ := h2; cases r2; obtain ⟨its2, rv2, pl2, hz2⟩ := I.list sq2
      have hd : D.depths p + 1 ≤ n + 1 := by unfold D.depth at hd; exact hd
      have l1 : its1.toArray.size = p.length := by have := al1.length; have := rv1.length; simp; omega
      have l2 : its2.toArray.size = q.length := by have := al2.length; have := rv2.length; simp; omega
      have kk : RcAt A s (.ref a1) (.ref a2) (D.eqs p q) := by
        rw [D.eqs_range]
        by_cases hlen : p.length = q.length
        · have k := RcAt.lists (A := A) (s := s) (e := fun i => match p[i]?, q[i]? with | some x, some y => D.eq x y | _, _ => true) pl1.isList pl2.isList (by omega) (by omega) (fun j hj1 hj2 => by
            obtain ⟨d1, v1, e1, i1, w1⟩ := allS_at al1 rv1 hj1
            obtain ⟨d2, v2, e2, i2, w2⟩ := allS_at al2 rv2 hj2
            simp only [e1, e2]
            exact eq_of_rc I (fun A => ih d1 d2 v1 v2 _ _ A (by have := D.depths_get e1; omega) i1.w i2.w w1 w2) i1 i2 w1 w2 (by simp only [Around.in1_units]; omega))
          rw [l1] at k
          rw [← hlen, Nat.min_self, beq_self_eq_true, Bool.and_true]
          exact k
        · rw [beq_eq_false_iff_ne.mpr hlen, Bool.and_false]
          exact RcAt.lists_lengths pl1.isList pl2.isList (by rw [l1, l2]; simpa using hlen) (by omega)
      unfold D.eq; exact kk
end
end TK
end
section
set_option maxRecDepth 100000
namespace HT
open PySem PyProof.Rows
section
variable {prog : Program} {w : World} {A : Around} {E : Value → Shared → Prop} {s : Shared}
theorem cat_tup0 {t b : Addr} {vs ws : List Value} {Q : Value → Shared → Prop} (ht : IsTup s.heap t vs.toArray) (hb : IsTup s.heap b ws.toArray) (hv : vs = []) (h1 : Q (.ref b) s) : wpAny (model prog w) A (binaryOp .Add (.ref t) (.ref b)) Q E s := by
  obtain ⟨⟨cls, dd, data, sl⟩, ho, hc, n, hd⟩ := id ht
  obtain ⟨⟨cls2, dd2, data2, sl2⟩, ho2, hc2, n2, hd2⟩ := id hb
  simp only at hc hd hc2 hd2
  subst hc hd hc2 hd2
  exact concat_meets ⟨_, ho, rfl⟩ ⟨_, ho2, rfl⟩ noFill_tuple_add seq_tuple_add PySem.F.slot_tuple_add PySem.F.entry_tuple_add (PySem.F.args_tuple_add_2 _ _)
    (tuple_addW0 t b vs.toArray ws.toArray n n2 dd dd2 sl sl2 (by simp [hv])) ⟨ho, ho2, h1⟩
end
end HT
namespace TK
open PySem PySem.Spec PyProof.Rows L2
section
variable {X : Cx}
noncomputable def intD (C : Int → Int → Prop) (f : Int → Int → Int) : R → R → (R → Prop) → Prop
  | .st (.int i), .st (.int j), Q => C i j ∧ Q (.st (.int (f i j)))
  | _, _, _ => False
theorem intD_of {C : Int → Int → Prop} {f : Int → Int → Int} {x y : R} {Q : R → Prop} (h : intD C f x y Q) : ∃ i j, x = .st (.int i) ∧ y = .st (.int j) ∧ C i j ∧ Q (.st (.int (f i j))) := by
  unfold intD at h
  split at h
  · exact ⟨_, _, rfl, rfl, h.1, h.2⟩
  · exact h.elim
theorem intD_mono {C : Int → Int → Prop} {f : Int → Int → Int} : Mono2 (intD C f) := fun x y P Q g h => by
  obtain ⟨i, j, rfl, rfl, c, q⟩ := intD_of h
  exact ⟨c, g _ q⟩
theorem OpD.ints {F : Value → Value → Sem Value} {C : Int → Int → Prop} {f : Int → Int → Int} (h : OpR X F (rI C fun i j => .int (f i j))) : OpD X F (intD C f) := by
  intro pins s σ H x y v u Q I rx ry ⟨r1, r2, h1, h2, hg⟩
  obtain ⟨i, j, rfl, rfl, c, q⟩ := intD_of hg
  exact h pins s σ H x y v u Q I rx ry ⟨i, j, h1, h2, c, q _ _ (Same.refl H) isr_int⟩
theorem OpD.ints0 {F : Value → Value → Sem Value} {f : Int → Int → Int} (h : OpR X F (rI0 fun i j => .int (f i j))) : OpD X F (intD (fun _ _ => True) f) := by
  intro pins s σ H x y v u Q I rx ry ⟨r1, r2, h1, h2, hg⟩
  obtain ⟨i, j, rfl, rfl, c, q⟩ := intD_of hg
  exact h pins s σ H x y v u Q I rx ry ⟨i, j, h1, h2, q _ _ (Same.refl H) isr_int⟩
noncomputable abbrev NoC : Int → Int → Prop := fun _ _ => True
theorem od_sub : OpD X (binaryOp .Sub) (intD NoC fun i j => i - j) := OpD.ints0 op_sub
theorem od_fdiv : OpD X (binaryOp .FloorDiv) (intD CDiv fun i j => i / j) := OpD.ints op_fdiv
theorem od_mod : OpD X (binaryOp .Mod) (intD (fun _ j => 0 < j) fun i j => i % j) := OpD.ints op_mod
noncomputable def lsM : R → Option (List D)
  | .nw ds => some ds
  | .bw ds => some ds
  | _ => none
noncomputable def lsAny : R → Option (List D)
  | .nw ds => some ds
  | .bw ds => some ds
  | .st (.lst ds) => some ds
  | _ => none
theorem lsM_of {K : PySem.W.Frag} {H0 H : Hp} : ∀ {r : R} {ds : List D} {v : V}, lsM r = some ds → IsR K H0 H r v → ∃ a xs, v = .ref a ∧ H a = some (.lst xs) ∧ AllS K H ds xs
  | .nw ds, _, v, e, h => by cases e; obtain ⟨a, xs, e, n, q, t⟩ := h; exact ⟨a, xs, e, q, t⟩
  | .bw ds, _, v, e, h => by cases e; obtain ⟨a, xs, e, q, t⟩ := h; exact ⟨a, xs, e, q, t⟩
  | .st _, _, _, e, _ => by cases e
  | .dk _, _, _, e, _ => by cases e
  | .dt _, _, _, e, _ => by cases e
  | .ob _, _, _, e, _ => by cases e
  | .ms _ _ _ _, _, _, e, _ => by cases e
theorem lsAny_of {K : PySem.W.Frag} {H0 H : Hp} : ∀ {r : R} {ds : List D} {v : V}, lsAny r = some ds → IsR K H0 H r v → ∃ a xs, v = .ref a ∧ SqL K H a xs ∧ AllS K H ds xs
  | .nw ds, _, v, e, h => by cases e; obtain ⟨a, xs, e, n, q, t⟩ := h; exact ⟨a, xs, e, SqL.of q, t⟩
  | .bw ds, _, v, e, h => by cases e; obtain ⟨a, xs, e, q, t⟩ := h; exact ⟨a, xs, e, SqL.of q, t⟩
  | .st (.lst ds), _, v, e, h => by cases e; have h : IsS K H (.lst ds) v := h; unfold IsS at h; obtain ⟨a, xs, e, q, t⟩ := h; exact ⟨a, xs, e, q.sq, t⟩
  | .st .non, _, _, e, _ => by cases e
  | .st (.bl _), _, _, e, _ => by cases e
  | .st (.int _), _, _, e, _ => by cases e
  | .st (.str _), _, _, e, _ => by cases e
  | .st (.tup _), _, _, e, _ => by cases e
  | .dk _, _, _, e, _ => by cases e
  | .dt _, _, _, e, _ => by cases e
  | .ob _, _, _, e, _ => by cases e
  | .ms _ _ _ _, _, _, e, _ => by cases e
noncomputable def addD (x y : R) (Q : R → Prop) : Prop :=
  match x, y with
  | .st (.int i), .st (.int j) => Q (.st (.int (i + j)))
  | .st (.str i), .st (.str j) => i.length + j.length ≤ sizeLine ∧ Q (.st (.str (i ++ j)))
  | .st (.tup i), .st (.tup j) => i.length + j.length ≤ sizeLine ∧ Q (.st (.tup (i ++ j)))
  | .nw i, .nw j => i.length + j.length ≤ sizeLine ∧ Q (.nw (i ++ j))
  | .nw i, .bw j => i.length + j.length ≤ sizeLine ∧ Q (.nw (i ++ j))
  | .bw i, .nw j => i.length + j.length ≤ sizeLine ∧ Q (.nw (i ++ j))
  | .bw i, .bw j => i.length + j.length ≤ sizeLine ∧ Q (.nw (i ++ j))
  | _, _ => False
theorem addD_mono : Mono2 addD := fun x y P Q g h => by
  unfold addD at h ⊢
  split at h <;> first | exact g _ h | exact ⟨h.1, g _ h.2⟩ | exact ⟨h.1, h.2.1, g _ h.2.2⟩ | exact h
theorem cat_ls {pins : List (Addr × Obj)} {s : Shared} {σ : St} {H : Hp} {x y : V} {v u : Value} {Q : VK} (I : Inv X pins σ H s) (rx : RelV x v) (ry : RelV y u) {r1 r2 : R} {i j : List D} (e1 : lsM r1 = some i) (e2 : lsM r2 = some j)
    (h1 : IsV X.K H r1 x) (h2 : IsV X.K H r2 y) (hz : i.length + j.length ≤ sizeLine) (q : ∀ v H', Same H H' → IsR X.K H H' (.nw (i ++ j)) v → Q v H') : wpAny (model X.prog X.w) X.A (binaryOp .Add v u) (EP X pins σ Q) X.xe s := by
  obtain ⟨a, xs, rfl, qa, ala⟩ := lsM_of e1 h1
  obtain ⟨b, ys, rfl, qb, alb⟩ := lsM_of e2 h2
  refine op_cat pins s σ H _ _ v u Q I rx ry ⟨a, b, xs, ys, rfl, rfl, qa, qb, by rw [← ala.length, ← alb.length]; exact hz, fun p hp => ?_⟩
  have k := Kp.of (same_new hp (.lst (xs ++ ys)))
  exact q _ _ (same_new hp _) ⟨p, xs ++ ys, rfl, hp, upd_same, (ala.append alb).mono k _ _⟩
theorem od_add : OpD X (binaryOp .Add) addD := by
  intro pins s σ H x y v u Q I rx ry ⟨r1, r2, h1, h2, hg⟩
  unfold addD at hg
  split at hg
  · exact op_add pins s σ H x y v u Q I rx ry ⟨_, _, h1, h2, hg _ _ (Same.refl H) isr_int⟩
  · exact op_add_str pins s σ H x y v u Q I rx ry ⟨_, _, h1, h2, hg.1, hg.2 _ _ (Same.refl H) isr_str⟩
  · rename_i i j
    have h1 : IsS X.K H (.tup i) x := h1
    have h2 : IsS X.K H (.tup j) y := h2
    unfold IsS at h1 h2
    obtain ⟨a, xs, rfl, qa, ala⟩ := h1
    obtain ⟨b, ys, rfl, qb, alb⟩ := h2
    have la := ala.length
    have lb := alb.length
    by_cases hx : xs = []
    · have zi : i = [] := List.length_eq_zero_iff.mp (by rw [la, hx]; rfl)
      subst zi
      cases rx
      cases ry
      obtain ⟨its, r1, p1, _⟩ := I.tuple (SqT.of (K := X.K) qa)
      obtain ⟨its2, r2, p2, _⟩ := I.tuple (SqT.of (K := X.K) qb)
      exact HT.cat_tup0 p1 p2 (r1.nil_iff.mpr hx) ⟨.ref b, H, I, rfl, hg.2 _ _ (Same.refl H) (IsS.s_tup (K := X.K) (H := H) qb alb)⟩
    refine op_catT pins s σ H _ _ v u Q I rx ry ⟨a, b, xs, ys, rfl, rfl, SqT.of qa, SqT.of qb, hx, by omega, fun z => ?_, fun z p hp => ?_⟩
    · have zj : j = [] := List.length_eq_zero_iff.mp (by rw [lb, z]; rfl)
      subst zj
      rw [List.append_nil] at hg
      exact hg.2 _ _ (Same.refl H) (IsS.s_tup (K := X.K) (H := H) qa ala)
    · exact hg.2 _ _ (same_new hp _) (IsS.s_tup (K := X.K) upd_same ((ala.append alb).mono (Kp.of (same_new hp _)) _ _))
  · exact cat_ls I rx ry rfl rfl h1 h2 hg.1 hg.2
  · exact cat_ls I rx ry rfl rfl h1 h2 hg.1 hg.2
  · exact cat_ls I rx ry rfl rfl h1 h2 hg.1 hg.2
  · exact cat_ls I rx ry rfl rfl h1 h2 hg.1 hg.2
  · exact hg.elim
noncomputable def mulD (x y : R) (Q : R → Prop) : Prop :=
  match x, y with
  | .st (.int i), .st (.int j) => CMul i j ∧ Q (.st (.int (i * j)))
  | .nw ds, .st (.int k) => -(2 ^ 63) ≤ k ∧ k < 2 ^ 63 ∧ ds.length * k.toNat ≤ sizeLine ∧ Q (.nw (List.replicate k.toNat ds).flatten)
  | _, _ => False
theorem mulD_mono : Mono2 mulD := fun x y P Q g h => by
  unfold mulD at h ⊢
  split at h <;> first | exact ⟨h.1, g _ h.2⟩ | exact ⟨h.1, h.2.1, h.2.2.1, g _ h.2.2.2⟩ | exact h
theorem AllS.rep {K : PySem.W.Frag} {H : Hp} {ds : List D} {vs : List V} (h : AllS K H ds vs) : ∀ k : Nat, AllS K H (List.replicate k ds).flatten (List.replicate k vs).flatten
  | 0 => AllS.nil
  | k + 1 => by rw [List.replicate_succ, List.replicate_succ, List.flatten_cons, List.flatten_cons]; exact h.append (AllS.rep h k)
theorem od_mul : OpD X (binaryOp .Mult) mulD := by
  intro pins s σ H x y v u Q I rx ry ⟨r1, r2, h1, h2, hg⟩
  unfold mulD at hg
  split at hg
  · exact op_mul pins s σ H x y v u Q I rx ry ⟨_, _, h1, h2, hg.1, hg.2 _ _ (Same.refl H) isr_int⟩
  · obtain ⟨a, xs, rfl, _, qa, ala⟩ := h1
    refine op_rep pins s σ H _ y v u Q I rx ry ⟨a, _, xs, rfl, h2, qa, hg.1, hg.2.1, by rw [← ala.length]; exact hg.2.2.1, fun p hp => ?_⟩
    exact hg.2.2.2 _ _ (same_new hp _) ⟨p, _, rfl, hp, upd_same, (ala.rep _).mono (Kp.of (same_new hp _)) _ _⟩
  · exact hg.elim
noncomputable def cmpI (f : Int → Int → Bool) : R → R → (Bool → Prop) → Prop
  | .st (.int i), .st (.int j), Q => Q (f i j)
  | _, _, _ => False
theorem cmpI_of {f : Int → Int → Bool} {x y : R} {Q : Bool → Prop} (h : cmpI f x y Q) : ∃ i j, x = .st (.int i) ∧ y = .st (.int j) ∧ Q (f i j) := by
  unfold cmpI at h
  split at h
  · exact ⟨_, _, rfl, rfl, h⟩
  · exact h.elim
theorem cmpI_mono {f : Int → Int → Bool} : Mono2 (cmpI f) := fun x y P Q g h => by
  obtain ⟨i, j, rfl, rfl, q⟩ := cmpI_of h
  exact g _ q
theorem CmpD.ints {op : CmpOp} {f : Int → Int → Bool} (h : OpR X (compareOp op) (rI0 fun i j => .bl (f i j))) : CmpD X op (cmpI f) := by
  intro pins s σ H x y v u Q I rx ry ⟨r1, r2, h1, h2, hg⟩
  obtain ⟨i, j, rfl, rfl, q⟩ := cmpI_of hg
  exact h pins s σ H x y v u Q I rx ry ⟨i, j, h1, h2, q⟩
theorem cd_lt : CmpD X .Lt (cmpI fun i j => decide (i < j)) := CmpD.ints op_lt
theorem cd_gt : CmpD X .Gt (cmpI fun i j => decide (j < i)) := CmpD.ints op_gt
noncomputable def eqD (n : Nat) (neg : Bool) (x y : R) (Q : Bool → Prop) : Prop := ∃ d e, x.d = some d ∧ y.d = some e ∧ d.depth ≤ n ∧ Q (if neg then !D.eq d e else D.eq d e)
theorem eqD_mono {n : Nat} {neg : Bool} : Mono2 (eqD n neg) := fun x y P Q g ⟨d, e, h1, h2, h3, q⟩ => ⟨d, e, h1, h2, h3, g _ q⟩
theorem cd_eq {n : Nat} (hu : X.A.units + n < cLine) : CmpD X .Eq (eqD n false) := by
  intro pins s σ H x y v u Q I rx ry ⟨r1, r2, h1, h2, d, e, e1, e2, hd, q⟩
  exact rc_D I n d e x y v u X.A hd (h1.w e1) (h2.w e2) rx ry hu _ _ _ _ ⟨.bl _, H, I, rfl, q⟩
end
end TK
end
section
set_option maxRecDepth 100000
namespace TK
open PySem PySem.Spec PyProof.Rows L2
section
variable {X : Cx}
noncomputable def scD : D → D → Bool
  | .non, .non => true | .non, .int _ => true | .int _, .non => true | .non, .bl _ => true | .bl _, .non => true | .non, .str _ => true | .str _, .non => true
  | .int _, .int _ => true | .bl _, .bl _ => true | .str _, .str _ => true
  | .int _, .str _ => true | .str _, .int _ => true | .bl _, .str _ => true | .str _, .bl _ => true
  | _, _ => false
noncomputable def neD (x y : R) (Q : Bool → Prop) : Prop := ∃ d e, x = .st d ∧ y = .st e ∧ scD d e = true ∧ Q (!D.eq d e)
theorem neD_mono : Mono2 neD := fun x y P Q g ⟨d, e, h1, h2, h3, q⟩ => ⟨d, e, h1, h2, h3, g _ q⟩
theorem cd_ne : CmpD X .NotEq neD := by
  intro pins s σ H x y v u Q I rx ry ⟨r1, r2, h1, h2, d, e, e1, e2, hs, q⟩
  subst e1 e2
  have key : scal x y = true ∧ (D.eq d e) = decide (x = y) := by
    cases d <;> cases e <;> first
      | (cases hs; done)
      | (replace h1 : IsS X.K H _ x := h1; replace h2 : IsS X.K H _ y := h2; unfold IsS at h1 h2; subst h1; subst h2; refine ⟨rfl, ?_⟩; unfold D.eq; first | (exact (dec_int).symm) | (exact (dec_bl).symm) | (exact (dec_str).symm) | rfl | (simp; done))
  refine op_ne pins s σ H x y v u Q I rx ry ⟨key.1, ?_⟩
  rw [← key.2]
  exact q
noncomputable def isND (neg : Bool) (x y : R) (Q : Bool → Prop) : Prop := ∃ d, x.d = some d ∧ y = .st .non ∧ Q (match d with | .non => !neg | _ => neg)
theorem isND_mono {neg : Bool} : Mono2 (isND neg) := fun x y P Q g ⟨d, h1, h2, q⟩ => ⟨d, h1, h2, g _ q⟩
theorem isW_non {K : PySem.W.Frag} {H : Hp} : ∀ {d : D} {v : V}, IsW K H d v → decide (v = .non) = (match d with | .non => true | _ => false)
  | .non, v, h => by cases (show v = .non from h); rfl
  | .bl b, v, h => by cases (show v = .bl b from h); rfl
  | .int b, v, h => by cases (show v = .int b from h); rfl
  | .str b, v, h => by cases (show v = .str b from h); rfl
  | .tup ds, v, h => by have h : IsS K H (.tup ds) v := h; unfold IsS at h; obtain ⟨a, _, rfl, _⟩ := h; rfl
  | .lst ds, v, h => by obtain ⟨a, _, rfl, _⟩ := h; rfl
theorem cd_isN : CmpD X .Is (isND false) := by
  intro pins s σ H x y v u Q I rx ry ⟨r1, r2, h1, h2, d, e1, e2, q⟩
  subst e2
  refine op_isN pins s σ H x y v u Q I rx ry ⟨h2, ?_⟩
  rw [isW_non (h1.w e1)]
  cases d <;> exact q
theorem cd_notN : CmpD X .IsNot (isND true) := by
  intro pins s σ H x y v u Q I rx ry ⟨r1, r2, h1, h2, d, e1, e2, q⟩
  subst e2
  refine op_notN pins s σ H x y v u Q I rx ry ⟨h2, ?_⟩
  rw [isW_non (h1.w e1)]
  cases d <;> exact q
noncomputable def inStr (a b : Str) : Bool := !(Builtin.Str.occurrences b a 0 b.length 1).isEmpty
noncomputable def inD (neg : Bool) (x y : R) (Q : Bool → Prop) : Prop := match x, y with
  | .st (.str a), .st (.str b) => Q (if neg then !inStr a b else inStr a b)
  | _, _ => False
theorem inD_of {neg : Bool} {x y : R} {Q : Bool → Prop} (h : inD neg x y Q) : ∃ a b, x = .st (.str a) ∧ y = .st (.str b) ∧ Q (if neg then !inStr a b else inStr a b) := by
  unfold inD at h
  split at h
  · exact ⟨_, _, rfl, rfl, h⟩
  · exact h.elim
theorem inD_mono {neg : Bool} : Mono2 (inD neg) := fun x y P Q g h => by
  obtain ⟨a, b, rfl, rfl, q⟩ := inD_of h
  exact g _ q
theorem cd_in : CmpD X .In (inD false) := by
  intro pins s σ H x y v u Q I rx ry ⟨r1, r2, h1, h2, hg⟩
  obtain ⟨a, b, rfl, rfl, q⟩ := inD_of hg
  exact op_in_str pins s σ H x y v u Q I rx ry ⟨a, b, h1, h2, q⟩
theorem cd_notin : CmpD X .NotIn (inD true) := by
  intro pins s σ H x y v u Q I rx ry ⟨r1, r2, h1, h2, hg⟩
  obtain ⟨a, b, rfl, rfl, q⟩ := inD_of hg
  exact op_notin_str pins s σ H x y v u Q I rx ry ⟨a, b, h1, h2, q⟩
theorem atI_all {K : PySem.W.Frag} {H : Hp} {ds : List D} {xs : List V} (al : AllS K H ds xs) {i : Int} {d : D} (h : atI ds i = some d) : ∃ v, atI xs i = some v ∧ IsS K H d v := by
  unfold atI at h ⊢
  rw [← al.length]
  cases e : ixN ds.length i with
  | none => rw [e] at h; cases h
  | some j =>
    rw [e] at h
    obtain ⟨v, hv, q⟩ := al.get (i := j) h
    exact ⟨v, hv, q⟩
noncomputable def ixD (x y : R) (Q : R → Prop) : Prop := match x, y with
  | .st (.lst ds), .st (.int i) => ∃ d, atI ds i = some d ∧ Q (.st d)
  | .nw ds, .st (.int i) => ∃ d, atI ds i = some d ∧ Q (.st d)
  | .bw ds, .st (.int i) => ∃ d, atI ds i = some d ∧ Q (.st d)
  | .st (.tup ds), .st (.int i) => ∃ d, atI ds i = some d ∧ Q (.st d)
  | .st (.str z), .st (.int i) => z.length ≤ sizeLine ∧ ∃ c, atI z.cps.toList i = some c ∧ Q (.st (.str ⟨#[c]⟩))
  | _, _ => False
theorem ixD_mono : Mono2 ixD := fun x y P Q g h => by
  unfold ixD at h ⊢
  split at h
  case h_6 => exact h
  case h_5 => obtain ⟨z, c, h1, h2⟩ := h; exact ⟨z, c, h1, g _ h2⟩
  all_goals (obtain ⟨d, h1, h2⟩ := h; exact ⟨d, h1, g _ h2⟩)
variable {H0 : Hp} {a b c e : Expr} {pos : Pos} {wa wb wc we : WE}
theorem DE.ix (ha : DE X H0 a wa) (hb : DE X H0 b wb) (hs : PlainIx b) : DE X H0 (.Subscript a b pos) (wOp ixD wa wb) where
  mono := fun τ P Q f h => ha.mono τ _ _ (fun x h => hb.mono τ _ _ (fun y h => ixD_mono x y P Q f h) h) h
  pe := peW (pe_ix ix_seq ha.pe hb.pe hs) fun σ H Q ⟨τ, hR, h⟩ => two ha hb hR h fun x y v u H' sm rx ry q => by
    unfold ixD at q
    split at q
    · have rx : IsS X.K H' _ v := rx
      unfold IsS at rx
      obtain ⟨p, xs, rfl, sq, al⟩ := rx
      obtain ⟨d, hd, q⟩ := q
      obtain ⟨z, hz, iz⟩ := atI_all al hd
      exact .inl ⟨p, xs, _, z, rfl, ry, sq.sq, hz, q z H' sm iz⟩
    · obtain ⟨p, xs, rfl, _, sq, al⟩ := rx
      obtain ⟨d, hd, q⟩ := q
      obtain ⟨z, hz, iz⟩ := atI_all al hd
      exact .inl ⟨p, xs, _, z, rfl, ry, SqL.of sq, hz, q z H' sm iz⟩
    · obtain ⟨p, xs, rfl, sq, al⟩ := rx
      obtain ⟨d, hd, q⟩ := q
      obtain ⟨z, hz, iz⟩ := atI_all al hd
      exact .inl ⟨p, xs, _, z, rfl, ry, SqL.of sq, hz, q z H' sm iz⟩
    · have rx : IsS X.K H' _ v := rx
      unfold IsS at rx
      obtain ⟨p, xs, rfl, sq, al⟩ := rx
      obtain ⟨d, hd, q⟩ := q
      obtain ⟨z, hz, iz⟩ := atI_all al hd
      exact .inr (.inl ⟨p, xs, _, z, rfl, ry, SqT.of sq, hz, q z H' sm iz⟩)
    · obtain ⟨z, c, h1, q⟩ := q
      exact .inr (.inr ⟨_, _, c, rx, ry, z, h1, q _ H' sm isr_str⟩)
    · exact q.elim
noncomputable def CallD (X : Cx) (f : Value) (g : List R → (R → Prop) → Prop) : Prop :=
  CallR X f (fun xs H Q => ∃ rs, AllR X.K (fun _ => none) H rs xs ∧ g rs fun r => ∀ v H', Same H H' → IsR X.K H H' r v → Q v H')
noncomputable def Mono1 (g : List R → (R → Prop) → Prop) : Prop := ∀ x (P Q : R → Prop), (∀ r, P r → Q r) → g x P → g x Q
variable {es : List Expr} {wr : WA} {x : Str} {p : Pos} {id T : String} {g : List R → (R → Prop) → Prop}
noncomputable def wCB (g : List R → (R → Prop) → Prop) (wr : WA) : WE := fun τ Q => wr τ fun rs => g rs Q
theorem DE.callB (hc : CallD X (.builtin id) g) (mg : Mono1 g) (hg : Gl X x) (hm : X.mg x = none) (hv : bootBuiltins x = some (.builtin id)) (ha : DA X H0 (e :: es) wr) (hn : x ≠ "__name__" := by decide) (hdb : (x == ("__debug__" : Str)) = false := by decide)
    (he : starEach (e :: es) X.env = (false, eval e X.env) :: starEach es X.env := by rfl) (hpl : (backTo pos (starEach es X.env)).any (·.1) = false := by rfl) : DE X H0 (.Call (.Name x p) (e :: es) [] pos) (wCB g wr) where
  mono := fun τ P Q f h => ha.mono τ _ _ (fun rs h => mg rs P Q f h) h
  pe := peW (pe_callB hc hg hm hv ha.pa hn hdb he hpl) fun σ H Q ⟨τ, hR, h⟩ => ⟨τ, hR, ha.mono τ _ _ (fun rs h vs H1 s1 irs => ⟨rs, irs.v, mg rs _ _ (fun r h v H' s2 ir => h v H' (s1.trans s2) (ir.older s1)) h⟩) h⟩
theorem DE.callTy (hc : CallD X (.type T) g) (mg : Mono1 g) (hg : Gl X x) (hm : X.mg x = none) (hv : bootBuiltins x = some (.type T)) (ha : DA X H0 (e :: es) wr) (hn : x ≠ "__name__" := by decide) (hdb : (x == ("__debug__" : Str)) = false := by decide)
    (he : starEach (e :: es) X.env = (false, eval e X.env) :: starEach es X.env := by rfl) (hpl : (backTo pos (starEach es X.env)).any (·.1) = false := by rfl) : DE X H0 (.Call (.Name x p) (e :: es) [] pos) (wCB g wr) where
  mono := fun τ P Q f h => ha.mono τ _ _ (fun rs h => mg rs P Q f h) h
  pe := peW (pe_callTy hc hg hm hv ha.pa hn hdb he hpl) fun σ H Q ⟨τ, hR, h⟩ => ⟨τ, hR, ha.mono τ _ _ (fun rs h vs H1 s1 irs => ⟨rs, irs.v, mg rs _ _ (fun r h v H' s2 ir => h v H' (s1.trans s2) (ir.older s1)) h⟩) h⟩
theorem allR1 {K : PySem.W.Frag} {H0 H : Hp} {r : R} {vs : List V} (h : AllR K H0 H [r] vs) : ∃ v, vs = [v] ∧ IsR K H0 H r v := by
  obtain ⟨v, t, rfl, q, z⟩ := h
  cases (show t = [] from z)
  exact ⟨v, rfl, q⟩
noncomputable def lenOf : R → (Nat → Prop) → Prop
  | .st (.str z), Q => z.length ≤ sizeLine ∧ Q z.length
  | .st (.tup ds), Q => Q ds.length
  | .st (.lst ds), Q => Q ds.length
  | .nw ds, Q => Q ds.length
  | .bw ds, Q => Q ds.length
  | _, _ => False
noncomputable def lenD : List R → (R → Prop) → Prop
  | [r], Q => lenOf r fun n => Q (.st (.int n))
  | _, _ => False
theorem lenD_mono : Mono1 lenD := fun x P Q g h => by
  unfold lenD at h ⊢
  split at h
  · unfold lenOf at h ⊢
    split at h <;> first | exact g _ h | exact ⟨h.1, g _ h.2⟩ | exact h
  · exact h
theorem call_lenR : CallD X (.builtin "len") lenD := by
  intro pins s σ H xs us Q I rv ⟨rs, irs, h⟩
  unfold lenD at h
  split at h
  · obtain ⟨v, rfl, ir⟩ := allR1 irs
    unfold lenOf at h
    split at h
    · cases (show v = .str _ from ir)
      exact call_len pins s σ H _ us Q I rv ⟨_, _, rfl, ⟨h.1, rfl⟩, h.2 _ _ (Same.refl H) isr_int⟩
    · have ir : IsS X.K H _ v := ir
      unfold IsS at ir
      obtain ⟨p, xs, rfl, sq, al⟩ := ir
      exact call_len pins s σ H _ us Q I rv ⟨_, _, rfl, .inr ⟨xs, SqT.of sq, rfl⟩, by rw [← al.length]; exact h _ _ (Same.refl H) isr_int⟩
    · have ir : IsS X.K H _ v := ir
      unfold IsS at ir
      obtain ⟨p, xs, rfl, sq, al⟩ := ir
      exact call_len pins s σ H _ us Q I rv ⟨_, _, rfl, .inl ⟨xs, sq.sq, rfl⟩, by rw [← al.length]; exact h _ _ (Same.refl H) isr_int⟩
    · obtain ⟨p, xs, rfl, _, sq, al⟩ := ir
      exact call_len pins s σ H _ us Q I rv ⟨_, _, rfl, .inl ⟨xs, SqL.of sq, rfl⟩, by rw [← al.length]; exact h _ _ (Same.refl H) isr_int⟩
    · obtain ⟨p, xs, rfl, sq, al⟩ := ir
      exact call_len pins s σ H _ us Q I rv ⟨_, _, rfl, .inl ⟨xs, SqL.of sq, rfl⟩, by rw [← al.length]; exact h _ _ (Same.refl H) isr_int⟩
    · exact h.elim
  · exact h.elim
noncomputable def intOfD : List R → (R → Prop) → Prop
  | [.st (.bl k)], Q => Q (.st (.int (if k then 1 else 0)))
  | [.st (.int i)], Q => Q (.st (.int i))
  | _, _ => False
noncomputable def seqOf : R → Option (List D)
  | .st (.tup ds) => some ds
  | .st (.lst ds) => some ds
  | .nw ds => some ds
  | .bw ds => some ds
  | _ => none
theorem seqOf_of {K : PySem.W.Frag} {H0 H : Hp} : ∀ {r : R} {ds : List D} {v : V}, seqOf r = some ds → IsR K H0 H r v → ∃ a xs, v = .ref a ∧ (SqL K H a xs ∨ H a = some (.tup xs)) ∧ AllS K H ds xs
  | .st (.tup ds), _, v, e, h => by cases e; have h : IsS K H (.tup ds) v := h; unfold IsS at h; obtain ⟨a, xs, e, q, t⟩ := h; exact ⟨a, xs, e, .inr q, t⟩
  | .st (.lst ds), _, v, e, h => by cases e; have h : IsS K H (.lst ds) v := h; unfold IsS at h; obtain ⟨a, xs, e, q, t⟩ := h; exact ⟨a, xs, e, .inl q.sq, t⟩
  | .nw ds, _, v, e, h => by cases e; obtain ⟨a, xs, e, n, q, t⟩ := h; exact ⟨a, xs, e, .inl (SqL.of q), t⟩
  | .bw ds, _, v, e, h => by cases e; obtain ⟨a, xs, e, q, t⟩ := h; exact ⟨a, xs, e, .inl (SqL.of q), t⟩
  | .st .non, _, _, e, _ => by cases e
  | .st (.bl _), _, _, e, _ => by cases e
  | .st (.int _), _, _, e, _ => by cases e
  | .st (.str _), _, _, e, _ => by cases e
  | .dk _, _, _, e, _ => by cases e
  | .dt _, _, _, e, _ => by cases e
  | .ob _, _, _, e, _ => by cases e
  | .ms _ _ _ _, _, _, e, _ => by cases e
noncomputable def listD : List R → (R → Prop) → Prop
  | [r], Q => ∃ ds, seqOf r = some ds ∧ Q (.nw ds)
  | _, _ => False
theorem listD_mono : Mono1 listD := fun x P Q g h => by
  unfold listD at h ⊢
  split at h
  · obtain ⟨ds, e, q⟩ := h; exact ⟨ds, e, g _ q⟩
  · exact h
theorem call_listR : CallD X (.type "list") listD := by
  intro pins s σ H xs us Q I rv ⟨rs, irs, h⟩
  unfold listD at h
  split at h
  · obtain ⟨v, rfl, ir⟩ := allR1 irs
    obtain ⟨ds, e, q⟩ := h
    obtain ⟨a, xs, rfl, sq, al⟩ := seqOf_of e ir
    exact call_list_of pins s σ H _ us Q I rv ⟨a, xs, rfl, sq.imp id (fun z => SqT.of z), fun l hl => q _ _ (same_new hl _) ⟨l, xs, rfl, hl, upd_same, al.mono (Kp.of (same_new hl _)) _ _⟩⟩
  · exact h.elim
noncomputable def tupleD : List R → (R → Prop) → Prop
  | [r], Q => ∃ ds, seqOf r = some ds ∧ Q (.st (.tup ds))
  | _, _ => False
noncomputable def tyOfR : R → Option String
  | .st .non => some "NoneType"
  | .st (.bl _) => some "bool"
  | .st (.int _) => some "int"
  | .st (.str _) => some "str"
  | .st (.tup _) => some "tuple"
  | .nw _ => some "list"
  | .bw _ => some "list"
  | .st (.lst _) => some "list"
  | _ => none
theorem tyOfR_of {K : PySem.W.Frag} {H0 H : Hp} : ∀ {r : R} {t : String} {v : V}, tyOfR r = some t → IsR K H0 H r v → TyOf K H v (.type t) ∨ (t = "list" ∧ ∃ a xs, v = .ref a ∧ SqL K H a xs)
  | .st .non, _, v, e, h => by cases e; cases (show v = .non from h); exact .inl (.non)
  | .st (.bl b), _, v, e, h => by cases e; cases (show v = .bl b from h); exact .inl (.bl b)
  | .st (.int b), _, v, e, h => by cases e; cases (show v = .int b from h); exact .inl (.int b)
  | .st (.str b), _, v, e, h => by cases e; cases (show v = .str b from h); exact .inl (.str b)
  | .st (.tup ds), _, v, e, h => by cases e; have h : IsS K H (.tup ds) v := h; unfold IsS at h; obtain ⟨a, xs, rfl, q, t⟩ := h; exact .inl (.tup q)
  | .nw ds, _, v, e, h => by cases e; obtain ⟨a, xs, rfl, n, q, t⟩ := h; exact .inl (.lst q)
  | .bw ds, _, v, e, h => by cases e; obtain ⟨a, xs, rfl, q, t⟩ := h; exact .inl (.lst q)
  | .st (.lst ds), _, v, e, h => by cases e; have h : IsS K H (.lst ds) v := h; unfold IsS at h; obtain ⟨a, xs, rfl, q, t⟩ := h; exact .inr ⟨rfl, a, xs, rfl, q.sq⟩
  | .dk _, _, _, e, _ => by cases e
  | .dt _, _, _, e, _ => by cases e
  | .ob _, _, _, e, _ => by cases e
  | .ms _ _ _ _, _, _, e, _ => by cases e
noncomputable def isiB (T : String) (t : String) : Bool := t == T || (T == "int" && t == "bool")
noncomputable def wIsi (T : String) (we : WE) : WE := fun τ Q => we τ fun r => ∃ t, tyOfR r = some t ∧ Q (.st (.bl (isiB T t)))
theorem DE.isi {p2 : Pos} {y : Str} (he : DE X H0 e we) (hg : Gl X "isinstance") (hm : X.mg "isinstance" = none) (hv : bootBuiltins "isinstance" = some (.builtin "isinstance")) (hg2 : Gl X y) (hm2 : X.mg y = none) (hv2 : bootBuiltins y = some (.type T))
    (hk : ∀ K t, t ∈ ["NoneType", "bool", "int", "str", "tuple", "list"] → PySem.W.kitOne K (.type t) (.type T) = some (isiB T t))
    (hs1 : starEach [e, .Name y p2] X.env = (false, eval e X.env) :: starEach [.Name y p2] X.env := by rfl) (hs2 : starEach [.Name y p2] X.env = (false, eval (.Name y p2) X.env) :: starEach [] X.env := by rfl)
    (hpl : (backTo pos (starEach [.Name y p2] X.env)).any (·.1) = false := by rfl) (hn : y ≠ "__name__" := by decide) (hd : (y == ("__debug__" : Str)) = false := by decide) :
    DE X H0 (.Call (.Name "isinstance" p) [e, .Name y p2] [] pos) (wIsi T we) where
  mono := fun τ P Q f h => he.mono τ _ _ (fun r ⟨t, h1, h2⟩ => ⟨t, h1, f _ h2⟩) h
  pe := by
    have hc : CallR X (.builtin "isinstance") (fun xs H Q => ∃ v t, xs = [v, .ty T] ∧ (TyOf X.K H v (.type t) ∨ (t = "list" ∧ ∃ a ys, v = .ref a ∧ SqL X.K H a ys)) ∧ t ∈ ["NoneType", "bool", "int", "str", "tuple", "list"] ∧ Q (.bl (isiB T t)) H) := by
      intro pins s σ H xs us Q I rv ⟨v, t, e, ty, ht, q⟩
      subst e
      obtain ⟨u, w', rfl, r1, r2⟩ := vals2 rv
      cases (show w' = Value.type T from r2)
      rcases ty with ty | ⟨rfl, a, ys, rfl, sq⟩
      · exact isinst_ok I r1 ty (hk _ t ht) fun tk => ⟨.bl _, H, I.tok tk, rfl, q⟩
      · cases (show u = Value.ref a from r1)
        obtain ⟨its, _, ⟨o, n, h1, h2, _⟩, _⟩ := I.list sq
        exact PySem.W.kia_one PySem.W.kitx_list I.kIn ⟨o, h1, h2⟩ (hk _ _ ht) (fun z => nomatch z) fun tk => ⟨.bl _, H, I.tok tk, rfl, q⟩
    refine peW (pe_callB hc hg hm hv (pa_cons he.pe (pa_cons (pe_bltn (v := .ty T) hg2 hm2 hv2 rfl hn hd) pa_nil hs2) hs1) (by decide) (by decide) hs1 hpl) fun σ H Q ⟨τ, hR, h⟩ => ⟨τ, hR, he.mono τ _ _ (fun r h v H1 s1 ir => ?_) h⟩
    obtain ⟨t, h1, h2⟩ := h
    refine ⟨v, t, rfl, tyOfR_of h1 ir, ?_, h2 _ _ s1 isr_bl⟩
    unfold tyOfR at h1
    split at h1 <;> first | (cases h1; simp) | cases h1
end
end TK
end
section
set_option maxRecDepth 100000
namespace TK
open PySem PySem.Spec PyProof.Rows L2
noncomputable abbrev WG := D → DSt → (DSt → Prop) → Prop
noncomputable def liftG (K : PySem.W.Frag) (H0 : Hp) (g : WG) : TG := fun v σ H Q => ∃ τ d, Rep K H0 τ σ H ∧ IsS K H d v ∧ g d τ fun τ' => ∀ σ' H', Same H H' → Rep K H0 τ' σ' H' → Q σ' H'
structure DG (X : Cx) (H0 : Hp) (tg : Expr) (g : WG) : Prop where
  mono : ∀ d τ (P Q : DSt → Prop), (∀ τ, P τ → Q τ) → g d τ P → g d τ Q
  pg : PG X tg (liftG X.K H0 g)
noncomputable abbrev WGs := List D → DSt → (DSt → Prop) → Prop
noncomputable def liftGs (K : PySem.W.Frag) (H0 : Hp) (g : WGs) : TGs := fun vs σ H Q => ∃ τ ds, Rep K H0 τ σ H ∧ AllS K H ds vs ∧ g ds τ fun τ' => ∀ σ' H', Same H H' → Rep K H0 τ' σ' H' → Q σ' H'
structure DGs (X : Cx) (H0 : Hp) (tg : List Expr) (g : WGs) : Prop where
  mono : ∀ d τ (P Q : DSt → Prop), (∀ τ, P τ → Q τ) → g d τ P → g d τ Q
  pg : PGs X tg (liftGs X.K H0 g)
theorem pgW {X : Cx} {e : Expr} {t t' : TG} (h : PG X e t) (f : ∀ v σ H Q, t' v σ H Q → t v σ H Q) : PG X e t' := fun pins s σ H v u Q I r q => h pins s σ H v u Q I r (f v σ H Q q)
theorem pgsW {X : Cx} {e : List Expr} {t t' : TGs} (h : PGs X e t) (f : ∀ v σ H Q, t' v σ H Q → t v σ H Q) : PGs X e t' := fun pins s σ H v u Q I r q => h pins s σ H v u Q I r (f v σ H Q q)
section
variable {X : Cx} {H0 : Hp} {a b c e iter tg : Expr} {pos : Pos} {wa wb we : WE} {es : List Expr}
noncomputable def gNm (i : Nat) : WG := fun d τ Q => Q (τ.set i (some (.dat d)))
theorem DG.nm {i : Nat} {x : Str} (hN : X.N.Nodup) (hi : X.N[i]? = some x) (hx : Loc X.env.scope x) (hf : X.fn x = true ∨ X.env.scope.names.lookup x = some .local := by first | exact .inl rfl | exact .inr rfl | assumption) : DG X H0 (.Name x pos) (gNm i) where
  mono := fun d τ P Q f h => f _ h
  pg := pgW (pg_name hN hi hx hf) fun v σ H Q ⟨τ, d, hR, iv, h⟩ => h _ _ (Same.refl H) (hR.set iv fun m => by cases m)
noncomputable def gNl : WGs := fun ds τ Q => ds = [] ∧ Q τ
noncomputable def gCn (g : WG) (gs : WGs) : WGs := fun ds τ Q => ∃ d r, ds = d :: r ∧ g d τ fun τ' => gs r τ' Q
theorem DGs.nil : DGs X H0 [] gNl where
  mono := fun d τ P Q f h => ⟨h.1, f _ h.2⟩
  pg := pgsW pgs_nil fun vs σ H Q ⟨τ, ds, hR, al, h1, h2⟩ => by
    subst h1
    unfold AllS at al
    exact ⟨al, h2 σ H (Same.refl H) hR⟩
theorem DGs.cons {g : WG} {gs : WGs} (h1 : DG X H0 e g) (h2 : DGs X H0 es gs) (hs : (assignEach (e :: es) X.env).map (·.2) = assign e X.env :: (assignEach es X.env).map (·.2) := by rfl) : DGs X H0 (e :: es) (gCn g gs) where
  mono := fun d τ P Q f ⟨x, r, e1, h⟩ => ⟨x, r, e1, h1.mono x τ _ _ (fun τ' h => h2.mono r τ' P Q f h) h⟩
  pg := pgsW (pgs_cons h1.pg h2.pg hs) fun vs σ H Q ⟨τ, ds, hR, al, d, r, e1, h⟩ => by
    subst e1
    unfold AllS at al
    obtain ⟨v, t, rfl, iv, al⟩ := al
    exact ⟨v, t, rfl, τ, d, hR, iv, h1.mono d τ _ _ (fun τ' h σ' H' sm hR' => ⟨τ', r, hR', al.mono (Kp.of sm) _ _, h2.mono r τ' _ _ (fun τ2 h σ2 H2 s2 hR2 => h σ2 H2 (sm.trans s2) hR2) h⟩) h⟩
noncomputable def gTp (n : Nat) (gs : WGs) : WG := fun d τ Q => ∃ ds, d = .tup ds ∧ ds.length = n ∧ gs ds τ Q
theorem DG.tp {k n : Nat} {gs : WGs} (hc : X.calm = true) (h : DGs X H0 es gs) (hn : (assignEach es X.env).length = n := by rfl) (hst : (assignEach es X.env).findIdx? (·.1) = none := by rfl) : DG X H0 (.Tuple es k pos) (gTp n gs) where
  mono := fun d τ P Q f ⟨ds, e1, e2, q⟩ => ⟨ds, e1, e2, h.mono ds τ P Q f q⟩
  pg := pgW (pg_tup hc h.pg hn hst) fun v σ H Q ⟨τ, d, hR, iv, ds, e1, e2, q⟩ => by
    subst e1
    unfold IsS at iv
    obtain ⟨p, xs, rfl, sq, al⟩ := iv
    exact ⟨p, xs, rfl, SqT.of sq, by rw [← al.length]; exact e2, τ, ds, hR, al, q⟩
structure Yl (K : PySem.W.Frag) (H0 : Hp) (J : It) (ds : List D) (H : Hp) : Prop where
  go : ∀ H', Kp H H' → Same H0 H' → ∀ i, i < ds.length → J.go i H'
  yld : ∀ H', Kp H H' → Same H0 H' → ∀ i x H'' d, ds[i]? = some d → J.yld i H' x H'' → Same H' H'' ∧ IsS K H'' d x
  stop : ∀ H', Kp H H' → Same H0 H' → J.stop ds.length H'
noncomputable abbrev WI := DSt → (List D → DSt → Prop) → Prop
noncomputable def liftI (K : PySem.W.Frag) (H0 : Hp) (wi : WI) : TI := fun σ H R => ∃ τ, Rep K H0 τ σ H ∧ wi τ fun ds τ' => ∀ J H', Kp H H' → Rep K H0 τ' σ H' → Yl K H0 J ds H' → R J H'
structure DI (X : Cx) (H0 : Hp) (tg iter : Expr) (wi : WI) : Prop where
  mono : ∀ τ (P Q : List D → DSt → Prop), (∀ ds τ, P ds τ → Q ds τ) → wi τ P → wi τ Q
  pi : PI X tg iter (liftI X.K H0 wi)
theorem piW {X : Cx} {tg e : Expr} {t t' : TI} (h : PI X tg e t) (f : ∀ σ H Q, t' σ H Q → t σ H Q) : PI X tg e t' := fun pins s σ H R I q => h pins s σ H R I (f σ H R q)
theorem yl_list {K : PySem.W.Frag} {H0 H : Hp} {a : Addr} {xs : List V} {ds : List D} (hq : ∀ H', Kp H H' → Same H0 H' → SqL K H' a xs) (al : AllS K H ds xs) : Yl K H0 (Itl K a) ds H where
  go := fun H' k s i hi => ⟨xs, xs[i]'(by rw [← al.length]; exact hi), hq H' k s, List.getElem?_eq_getElem _⟩
  yld := fun H' k s i x H'' d hd ⟨e, y⟩ => by
    subst e
    have hx := y xs (hq _ k s)
    obtain ⟨v, hv, q⟩ := (al.mono k _ _).get hd
    rw [hx] at hv; cases hv
    exact ⟨Same.refl _, q⟩
  stop := fun H' k s => ⟨xs, hq H' k s, by rw [al.length]; exact Nat.le_refl _⟩
theorem DI.lst (he : DE X H0 e we) : DI X H0 tg e (fun τ Q => we τ fun r => ∃ ds, r = .st (.lst ds) ∧ Q ds τ) where
  mono := fun τ P Q f h => he.mono τ _ _ (fun r ⟨ds, e1, q⟩ => ⟨ds, e1, f _ _ q⟩) h
  pi := piW (pi_list he.pe) fun σ H R ⟨τ, hR, h⟩ => ⟨τ, hR, he.mono τ _ _ (fun r ⟨ds, e1, q⟩ v H1 s1 ir => by
    subst e1
    have ir : IsS X.K H1 (.lst ds) v := ir
    unfold IsS at ir
    obtain ⟨a, xs, rfl, sq, al⟩ := ir
    exact ⟨a, rfl, ⟨xs, sq.sq⟩, q _ _ (Kp.of s1) (hR.mono s1) (yl_list (fun H' k _ => (k.fzL sq).sq) al)⟩) h⟩
theorem DI.tup (he : DE X H0 e we) : DI X H0 tg e (fun τ Q => we τ fun r => ∃ ds, r = .st (.tup ds) ∧ Q ds τ) where
  mono := fun τ P Q f h => he.mono τ _ _ (fun r ⟨ds, e1, q⟩ => ⟨ds, e1, f _ _ q⟩) h
  pi := piW (pi_tup he.pe) fun σ H R ⟨τ, hR, h⟩ => ⟨τ, hR, he.mono τ _ _ (fun r ⟨ds, e1, q⟩ v H1 s1 ir => by
    subst e1
    have ir : IsS X.K H1 (.tup ds) v := ir
    unfold IsS at ir
    obtain ⟨a, xs, rfl, sq, al⟩ := ir
    refine ⟨a, rfl, ⟨xs, SqT.of sq⟩, q _ _ (Kp.of s1) (hR.mono s1) ⟨fun H' k _ i hi => ⟨xs, xs[i]'(by rw [← al.length]; exact hi), SqT.of (k.tup _ _ sq), List.getElem?_eq_getElem _⟩, fun H' k _ i x H'' d hd ⟨e, y⟩ => ?_, fun H' k _ => ⟨xs, SqT.of (k.tup _ _ sq), by rw [al.length]; exact Nat.le_refl _⟩⟩⟩
    subst e
    have hx := y xs (SqT.of (k.tup _ _ sq))
    obtain ⟨v, hv, q⟩ := (al.mono k _ _).get hd
    rw [hx] at hv; cases hv
    exact ⟨Same.refl _, q⟩) h⟩
noncomputable def rngD (lo : Int) (n : Nat) : List D := (List.range n).map fun (i : Nat) => .int (lo + (i : Int))
variable {wr : WA}
noncomputable def forW (g : WG) (wb : WS) (E : DEnds) : List D → DSt → Prop
  | [], τ => E.nx τ
  | d :: ds, τ => g d τ fun τ' => wb { E with nx := forW g wb E ds, ct := forW g wb E ds, bk := E.nx } τ'
theorem forW_mono {g : WG} {wb : WS} (hg : ∀ d τ (P Q : DSt → Prop), (∀ τ, P τ → Q τ) → g d τ P → g d τ Q) (hb : ∀ (τ : DSt) (E F : DEnds), E.Le F → wb E τ → wb F τ) {E F : DEnds} (le : E.Le F) : ∀ (ds : List D) (τ : DSt), forW g wb E ds τ → forW g wb F ds τ
  | [], τ, h => le.nx τ h
  | d :: ds, τ, h => hg d τ _ _ (fun τ' h => hb τ' { E with nx := forW g wb E ds, ct := forW g wb E ds, bk := E.nx } { F with nx := forW g wb F ds, ct := forW g wb F ds, bk := F.nx } ⟨fun τ h => forW_mono hg hb le ds τ h, le.rt, le.nx, fun τ h => forW_mono hg hb le ds τ h⟩ h) h
theorem DS.for {body : List Stmt} {wi : WI} {g : WG} {wb : WS} (hp : PassesOwn (model X.prog X.w) X.A X.env X.xe) (hc : X.calm = true) (hi : DI X H0 tg iter wi) (hg : DG X H0 tg g) (hb : DSs X H0 body wb)
    (hs : ∀ x, foldedSetIterable iter X.env x = pure x := by intro _; rfl) : DS X H0 (.For tg iter body [] pos) (fun E τ => wi τ fun ds τ' => forW g wb E ds τ') where
  mono := fun τ E F le h => hi.mono τ _ _ (fun ds τ' h => forW_mono hg.mono hb.mono le ds τ' h) h
  ps := psW (ps_for hp hc hi.pi hg.pg hb.ps hs) fun D σ H ⟨τ, hR, h⟩ => ⟨τ, hR, hi.mono τ _ _ (fun ds τ' h J H1 k1 hR1 yl => by
    refine ⟨fun i m σ H2 => ∃ τ, Rep X.K H0 τ σ H2 ∧ Kp H1 H2 ∧ i ≤ ds.length ∧ m = ds.length - i ∧ forW g wb (liftD X.K H0 H D) (ds.drop i) τ, ⟨ds.length, τ', hR1, Kp.refl _, Nat.zero_le _, rfl, h⟩, ?_⟩
    rintro i m σ2 H2 ⟨τ2, hR2, k2, hi2, rfl, h2⟩
    by_cases hlt : i < ds.length
    · refine .inr ⟨yl.go H2 k2 hR2.same i hlt, fun σ' H' => ∃ τ, Rep X.K H0 τ σ' H' ∧ Kp H1 H' ∧ i + 1 ≤ ds.length ∧ forW g wb (liftD X.K H0 H D) (ds.drop (i + 1)) τ, fun σ' H' ⟨τ3, a3, b3, c3, d3⟩ => ⟨ds.length - (i + 1), by omega, τ3, a3, b3, c3, rfl, d3⟩, fun x H3 y => ?_⟩
      obtain ⟨s3, ix⟩ := yl.yld H2 k2 hR2.same i x H3 _ (List.getElem?_eq_getElem hlt) y
      rw [List.drop_eq_getElem_cons hlt] at h2
      have k3 := k2.trans (Kp.of s3)
      refine ⟨τ2, ds[i], hR2.mono s3, ix, hg.mono _ _ _ _ (fun τ4 h4 σ4 H4 s4 hR4 => ⟨τ4, hR4, ?_⟩) h2⟩
      have k4 := k3.trans (Kp.of s4)
      have k5 := k1.trans k4
      exact hb.mono τ4 { liftD X.K H0 H D with nx := forW g wb (liftD X.K H0 H D) (ds.drop (i + 1)), ct := forW g wb (liftD X.K H0 H D) (ds.drop (i + 1)), bk := (liftD X.K H0 H D).nx } _
        ⟨fun τ5 h5 σ5 H5 kk hR5 => ⟨τ5, hR5, k4.trans kk, hlt, h5⟩, fun _ h => h, fun τ5 h5 σ5 H5 kk hR5 => h5 σ5 H5 (k5.trans kk) hR5, fun τ5 h5 σ5 H5 kk hR5 => ⟨τ5, hR5, k4.trans kk, hlt, h5⟩⟩ h4
    · have e : i = ds.length := by omega
      subst e
      rw [List.drop_length] at h2
      exact .inl ⟨yl.stop H2 k2 hR2.same, h2 σ2 H2 (k1.trans k2) hR2⟩) h⟩
end
end TK
end
section
set_option maxRecDepth 100000
namespace TK
open PySem PySem.Spec PyProof.Rows L2
noncomputable def clOf (env : Env) : List (Str × NameKind) → List (Str × Addr) → List (Str × Addr)
  | [], acc => acc
  | (n, k) :: r, acc => clOf env r (if (k == NameKind.free) = true then (n, (env.cells.lookup n).getD 0) :: acc else acc)
theorem closureFor_clOf {scope : Scope} {env : Env} (h : ∀ y ∈ scope.names, y.2 = .free → ∃ c, env.cells.lookup y.1 = some c) : closureFor scope env = pure (clOf env scope.names []) := by
  have key : ∀ (l : List (Str × NameKind)) (acc : List (Str × Addr)), (∀ y ∈ l, y.2 = .free → ∃ c, env.cells.lookup y.1 = some c) →
      (forIn l acc fun x r => (if (x.2 == NameKind.free) = true then cellOf env x.1 >>= fun c => pure (ForInStep.yield ((x.1, c) :: r)) else pure (ForInStep.yield r) : Sem (ForInStep (List (Str × Addr))))) = pure (clOf env l acc) := by
    intro l
    induction l with
    | nil => intro acc _; rfl
    | cons x r ih =>
      intro acc hl
      obtain ⟨n, k⟩ := x
      have hr : ∀ y ∈ r, y.2 = .free → ∃ c, env.cells.lookup y.1 = some c := fun y hy => hl y (List.mem_cons_of_mem _ hy)
      rw [List.forIn_cons]
      by_cases hk : (k == NameKind.free) = true
      · obtain ⟨c, hc⟩ := hl (n, k) List.mem_cons_self (eq_of_beq hk)
        have hc : env.cells.lookup n = some c := hc
        have e : cellOf env n = pure c := by unfold cellOf; rw [hc]
        show ((if (k == NameKind.free) = true then cellOf env n >>= fun c => pure (ForInStep.yield ((n, c) :: acc)) else pure (ForInStep.yield acc)) >>= _) = _
        rw [if_pos hk, e]
        show _ = pure (clOf env r (if (k == NameKind.free) = true then (n, (env.cells.lookup n).getD 0) :: acc else acc))
        rw [if_pos hk, hc]
        exact ih _ hr
      · show ((if (k == NameKind.free) = true then cellOf env n >>= fun c => pure (ForInStep.yield ((n, c) :: acc)) else pure (ForInStep.yield acc)) >>= _) = _
        rw [if_neg hk]
        show _ = pure (clOf env r (if (k == NameKind.free) = true then (n, (env.cells.lookup n).getD 0) :: acc else acc))
        rw [if_neg hk]
        exact ih _ hr
  simp only [closureFor]
  rw [key scope.names [] h]
  rfl
theorem clOf_mem {env : Env} : ∀ (l : List (Str × NameKind)) (acc : List (Str × Addr)) (p : Str × Addr), p ∈ clOf env l acc → p ∈ acc ∨ ((p.1, NameKind.free) ∈ l ∧ p.2 = (env.cells.lookup p.1).getD 0)
  | [], acc, p, h => .inl h
  | (n, k) :: r, acc, p, h => by
    rcases clOf_mem r _ p h with q | ⟨q1, q2⟩
    · by_cases hk : (k == NameKind.free) = true
      · rw [if_pos hk] at q
        rcases List.mem_cons.mp q with q | q
        · refine .inr ⟨?_, by rw [q]⟩
          have : k = NameKind.free := eq_of_beq hk
          rw [q, this]; exact List.mem_cons_self
        · exact .inl q
      · rw [if_neg hk] at q; exact .inl q
    · exact .inr ⟨List.mem_cons_of_mem _ q1, q2⟩
theorem clOf_has {env : Env} : ∀ (l : List (Str × NameKind)) (acc : List (Str × Addr)) (n : Str), ((n, NameKind.free) ∈ l ∨ ∃ c, (n, c) ∈ acc) → ∃ c, (n, c) ∈ clOf env l acc
  | [], acc, n, h => by
    rcases h with h | h
    · cases h
    · exact h
  | (m, k) :: r, acc, n, h => by
    refine clOf_has r _ n ?_
    rcases h with h | ⟨c, h⟩
    · rcases List.mem_cons.mp h with e | h
      · cases e
        refine .inr ⟨(env.cells.lookup m).getD 0, ?_⟩
        rw [if_pos (by rfl)]
        exact List.mem_cons_self
      · exact .inl h
    · refine .inr ⟨c, ?_⟩
      split
      · exact List.mem_cons_of_mem _ h
      · exact h
theorem lookup_mem' {α : Type} : ∀ {l : List (Str × α)} {x : Str} {c : α}, l.lookup x = some c → (x, c) ∈ l
  | [], _, _, h => by simp at h
  | (n, d) :: r, x, c, h => by
    rw [List.lookup_cons] at h
    cases e : x == n with
    | true => rw [e] at h; cases h; rw [eq_of_beq e]; exact List.mem_cons_self
    | false => rw [e] at h; exact List.mem_cons_of_mem _ (lookup_mem' h)
theorem mem_lookup' {α : Type} : ∀ {l : List (Str × α)} {x : Str} {c : α}, (x, c) ∈ l → ∃ d, l.lookup x = some d
  | [], _, _, h => by cases h
  | (n, d) :: r, x, c, h => by
    rw [List.lookup_cons]
    cases e : x == n with
    | true => exact ⟨d, rfl⟩
    | false =>
      rcases List.mem_cons.mp h with q | q
      · cases q; simp at e
      · exact mem_lookup' q
noncomputable def blk (X : Cx) (scope : Scope) (C : Addr) (s : Shared) (H : Hp) (fp : List Addr) (N : List Str) : Cx :=
  { X with N := N, s₀ := s, H₀ := H, env := compEnvC scope (clOf X.env scope.names []) C X.env, outer := X.stack, ex := fp, fn := fun _ => false, pn := [], xe := fun _ _ => False }
structure Blk (X : Cx) (scope : Scope) (N : List Str) (nt : Nat) (cap : List Nat) : Prop where
  kind : scope.kind = .function
  cell : ∀ y ∈ scope.names, y.2 ≠ .cell
  names : ∀ y ∈ scope.names, y.2 = .local → scope.names.lookup y.1 = some .local
  only : ∀ y ∈ scope.names, y.2 = .free → scope.names.lookup y.1 = some .free
  free : ∀ y ∈ scope.names, y.2 = .free → X.env.kindOf y.1 = some .cell ∨ X.env.kindOf y.1 = some .free
  len : N.length = nt + cap.length
  caps : ∀ (j i : Nat) (x : Str), cap[j]? = some i → N[nt + j]? = some x → X.N[i]? = some x ∧ (x, NameKind.free) ∈ scope.names
section
variable {X : Cx} {scope : Scope} {N : List Str} {nt : Nat} {cap : List Nat} {pins : List (Addr × Obj)} {σ : St} {H : Hp} {s : Shared}
theorem cl_cells (I : Inv X pins σ H s) (B : Blk X scope N nt cap) {x : Str} {c : Addr} (h : (clOf X.env scope.names []).lookup x = some c) : X.env.cells.lookup x = some c := by
  rcases clOf_mem _ _ _ (lookup_mem' h) with q | ⟨q1, q2⟩
  · cases q
  · obtain ⟨d, hd⟩ := I.ok.has x (B.free _ q1 rfl)
    have q2 : c = (X.env.cells.lookup x).getD 0 := q2
    rw [hd] at q2 ⊢
    rw [q2]; rfl
theorem cl_has (I : Inv X pins σ H s) (B : Blk X scope N nt cap) {x : Str} (h : (x, NameKind.free) ∈ scope.names) : ∃ c, (clOf X.env scope.names []).lookup x = some c := by
  obtain ⟨c, hc⟩ := clOf_has (env := X.env) scope.names [] x (.inl h)
  exact mem_lookup' hc
theorem relabel_kind {env : Env} {x : Str} {k : NameKind} (h : (relabel scope env).names.lookup x = some k) (hk : k = .cell ∨ k = .free) (nc : ∀ y ∈ scope.names, y.2 ≠ .cell) : (x, NameKind.free) ∈ scope.names := by
  have m := lookup_mem' h
  unfold relabel at m
  obtain ⟨⟨n, k'⟩, hm, e⟩ := List.mem_map.mp m
  dsimp only at e
  split at e
  · rename_i hc
    cases e
    simp only [Bool.and_eq_true] at hc
    have : k' = NameKind.free := eq_of_beq hc.1.1
    rw [← this]; exact hm
  · cases e
    rcases hk with rfl | rfl
    · exact absurd rfl (nc _ hm)
    · exact hm
theorem blk_ok (I : Inv X pins σ H s) (B : Blk X scope N nt cap) {C : Addr} {fp : List Addr} (hC : s.heap.objs.size ≤ C) (hf : ∀ b ∈ fp, FpOk X pins H b) (hfl : ∀ b ∈ fp, b < s.heap.objs.size) : (blk X scope C s H fp N).Ok where
  mod := I.ok.mod
  kind := B.kind
  glob := I.ok.glob
  blt := I.ok.blt
  above := hC
  inj := fun x y c h1 h2 => I.ok.inj x y c (cl_cells I B h1) (cl_cells I B h2)
  has := fun x h => by
    rcases h with h | h
    · exact cl_has I B (relabel_kind h (.inl rfl) B.cell)
    · exact cl_has I B (relabel_kind h (.inr rfl) B.cell)
  cab := fun x c h => by cases h
  hd := I.ok.hd
  frames := I.ok.frames
  stk := .inl rfl
  exf := fun b hb => ⟨Nat.ne_of_lt (Nat.lt_of_lt_of_le (hfl b hb) hC), fun x c h => (hf b hb).2.2.2.2.1 x c (cl_cells I B h)⟩
  bs := I.bs
  bsz := Nat.le_trans I.ok.bsz I.sz
  noex := fun b o e hb => by
    rcases (hf b hb).2.2.2.1 with z | z
    · exact I.ok.noex b o e z
    · exact absurd (Nat.lt_of_lt_of_le (Heap.lt_size e) (Nat.le_trans I.ok.bsz z)) (Nat.lt_irrefl _)
  exfs := fun b hb z => by
    rcases List.mem_cons.mp (I.stkSub b z) with e | e
    · exact (hf b hb).2.1 e
    · exact (hf b hb).2.2.1 e
  funs := I.stack
  frf := I.stkFree
theorem blk_inv (I : Inv X pins σ H s) (B : Blk X scope N nt cap) {C : Addr} {fp : List Addr} (hf : ∀ b ∈ fp, FpOk X pins H b) (hfl : ∀ b ∈ fp, b < s.heap.objs.size) {h' : Heap} {t' : Nat} {m : Str → Option Value}
    (hC : s.heap.objs.size ≤ C) (hns : h'.Ns C m) (k : ∀ b o, s.heap.get? b = some o → h'.get? b = some o) :
    Inv (blk X scope C s H fp N) [] (List.replicate nt none ++ cap.map fun i => (σ[i]?).join) H { s with heap := h', toks := t' } := by
  refine ⟨blk_ok I B hC hf hfl, rfl, I.bare, Un.kept k, ⟨m, hns, fun i x v h1 h2 h3 => ?_⟩, fun x c h => ?_, I.hok.fresh hC, fun x c h => I.freeC x c (cl_cells I B h), (fun p hp => by cases hp), I.hok.kept k, ?_⟩
  · have h1 : N[i]? = some x := h1
    by_cases hi : i < nt
    · rw [List.getElem?_append_left (by rw [List.length_replicate]; exact hi)] at h2
      have := List.mem_of_getElem? h2
      rw [List.mem_replicate] at this
      cases this.2
    · rw [List.getElem?_append_right (by rw [List.length_replicate]; omega), List.length_replicate, List.getElem?_map] at h2
      cases e : cap[i - nt]? with
      | none => rw [e] at h2; cases h2
      | some j =>
        rw [e] at h2
        have h2 : (σ[j]?).join = some v := Option.some.inj h2
        have hσ : σ[j]? = some (some v) := by
          cases q : σ[j]? with
          | none => rw [q] at h2; cases h2
          | some o => rw [q] at h2; exact congrArg some h2
        obtain ⟨hN, hx⟩ := B.caps (i - nt) j x e (by rw [show nt + (i - nt) = i by omega]; exact h1)
        obtain ⟨m0, hn0, hl⟩ := I.loc
        have kd := B.free _ hx rfl
        obtain ⟨u, r, l⟩ := hl j x v hN hσ (.inr kd)
        refine ⟨u, r, ?_⟩
        obtain ⟨c, hc⟩ := cl_has I B hx
        have hcell : ∃ c', X.env.cells.lookup x = some c' ∧ s.heap.IsCell c' (some u) := by
          rcases l with ⟨l1, _⟩ | ⟨_, l2⟩
          · rcases kd with kd | kd
            · rw [kd] at l1; cases l1
            · rw [kd] at l1; cases l1
          · exact l2
        obtain ⟨c', hc', o, ho, hd⟩ := hcell
        rw [cl_cells I B hc] at hc'; cases hc'
        have h3 : Vis (relabel scope X.env) x := h3
        refine .inr ⟨?_, c, hc, o, k _ _ ho, hd⟩
        rcases h3 with h3 | h3 | h3
        · exfalso
          have m1 := lookup_mem' h3
          unfold relabel at m1
          obtain ⟨⟨n, k'⟩, hm, e'⟩ := List.mem_map.mp m1
          dsimp only at e'
          split at e'
          · cases e'
          · cases e'
            have a1 := B.names _ hm rfl
            have a1 : scope.names.lookup x = some .local := a1
            rw [B.only _ hx rfl] at a1; cases a1
        · exact .inl h3
        · exact .inr h3
  · obtain ⟨v, o, ho, hd⟩ := I.cell x c (cl_cells I B h)
    exact ⟨v, o, k _ _ ho, hd⟩
  · rw [List.length_append, List.length_replicate, List.length_map]; exact B.len.symm
end
section
variable {prog : Program} {w : World} {A : Around} {RR : Result → Shared → Prop} {s : Shared}
theorem compLoop_gen {elt target iter : Expr} {ifs : List Expr} {scope : Scope} {pos : Pos} {it acc : Value} {env : Env} (I : Nat → Shared → Prop)
    (turn : ∀ n s, I n s → wpAny (model prog w) A (pyNext it) (fun r s₁ => match r with
      | none => RR (.ok .next) s₁
      | some v => wpAny (model prog w) A (letOwnedTupleGo target it v) (fun _ sa => wpAny (model prog w) A (assign target env v) (fun _ s₂ =>
          wpAny (model prog w) A (forIn ifs true fun c r => if r = true then do let ok ← isTrue c env (eval c env); pure (ForInStep.yield ok) else pure (ForInStep.yield r)) (fun ok s₃ =>
            if ok = true then wpAny (model prog w) A (eval elt env) (fun x s₄ =>
              wpAny (model prog w) A (call (.builtin "list.append") [acc, x]) (fun _ s₅ => ∃ m, m < n ∧ I m s₅) (fun _ _ => False) s₄) (fun _ _ => False) s₃
            else ∃ m, m < n ∧ I m s₃) (fun _ _ => False) s₂) (fun _ _ => False) sa) (fun _ _ => False) s₁) (fun _ _ => False) s)
    (n : Nat) (h : I n s) : codeAny (model prog w) A (.compLoop (.ListComp elt [⟨target, iter, ifs, 0⟩] scope pos) 0 it acc env) RR s := by
  refine codeAny_loop rfl I (fun n s hI => ?_) n h
  show wpAny _ _ ((compTurn (.ListComp elt [⟨target, iter, ifs, 0⟩] scope pos) 0 it acc env).onRaise (fun x => do noteFrame x env; theTreesLotGoes x)) _ _ s
  refine wpAny_noted ?_
  rw [compTurn_list]
  refine wpAny_bind (wpAny_standAt (wpAny_bind (wpAny_mono (turn n s hI) (fun r s₁ h₁ => ?_) fun _ _ h' => h'.elim)))
  cases r with
  | none => exact wpAny_pure h₁
  | some v =>
    refine wpAny_bind (wpAny_mono h₁ (fun _ sa ha => ?_) fun _ _ h' => h'.elim)
    refine wpAny_bind (wpAny_mono ha (fun _ s₂ h₂ => wpAny_bind (wpAny_mono h₂ (fun ok s₃ h₃ => ?_) fun _ _ h' => h'.elim)) fun _ _ h' => h'.elim)
    cases ok with
    | false => exact wpAny_pure ⟨rfl, h₃⟩
    | true =>
      exact wpAny_bind (wpAny_bind (wpAny_mono h₃ (fun x s₄ h₄ => wpAny_bind (wpAny_mono h₄ (fun _ s₅ h₅ => wpAny_pure (wpAny_pure ⟨rfl, h₅⟩)) fun _ _ h' => h'.elim)) fun _ _ h' => h'.elim))
end
structure YlS (K : PySem.W.Frag) (J : It) (ds : List D) (H : Hp) : Prop where
  go : ∀ H', Same H H' → ∀ i, i < ds.length → J.go i H'
  yld : ∀ H', Same H H' → ∀ i x H'' d, ds[i]? = some d → J.yld i H' x H'' → Same H' H'' ∧ IsS K H'' d x
  stop : ∀ H', Same H H' → J.stop ds.length H'
noncomputable abbrev WIE := DSt → (List D → Prop) → Prop
noncomputable def liftIE (K : PySem.W.Frag) (H0 : Hp) (wi : WIE) : TI := fun σ H R => ∃ τ, Rep K H0 τ σ H ∧ wi τ fun ds => ∀ J H', Same H H' → YlS K J ds H' → R J H'
structure DIE (X : Cx) (H0 : Hp) (tg iter : Expr) (wi : WIE) : Prop where
  mono : ∀ τ (P Q : List D → Prop), (∀ ds, P ds → Q ds) → wi τ P → wi τ Q
  pi : PI X tg iter (liftIE X.K H0 wi)
noncomputable def IfsR (X : Cx) (ifs : List Expr) (t : TT) : Prop :=
  ∀ (pins : List (Addr × Obj)) (s : Shared) (σ : St) (H : Hp) (Q : Bool → Hp → Prop), Inv X pins σ H s → t σ H Q →
    wpAny (model X.prog X.w) X.A (forIn ifs true fun c r => if r = true then do let ok ← isTrue c X.env (eval c X.env); pure (ForInStep.yield ok) else pure (ForInStep.yield r)) (TP X pins σ Q) X.xe s
structure DIf (X : Cx) (H0 : Hp) (ifs : List Expr) (t : WT) : Prop where
  mono : ∀ (τ : DSt) (P Q : Bool → Prop), (∀ r, P r → Q r) → t τ P → t τ Q
  pt : IfsR X ifs (liftT X.K H0 t)
theorem DIf.one {X : Cx} {H0 : Hp} {c : Expr} {t : WT} (hc : DT X H0 c t) : DIf X H0 [c] t where
  mono := hc.mono
  pt := fun pins s σ H Q I h => wpAny_tests_one (hc.pt pins s σ H Q I h)
noncomputable def compW (g : WG) (t : WT) (we : WE) : List D → DSt → (List D → Prop) → Prop
  | [], _, Q => Q []
  | d :: ds, τ, Q => g d τ fun τ' => t τ' fun k => if k = true then we τ' fun r => ∃ e, r = .st e ∧ compW g t we ds τ' fun es => Q (e :: es) else compW g t we ds τ' Q
theorem compW_mono {g : WG} {t : WT} {we : WE} (hg : ∀ d τ (P Q : DSt → Prop), (∀ τ, P τ → Q τ) → g d τ P → g d τ Q) (ht : ∀ (τ : DSt) (P Q : Bool → Prop), (∀ r, P r → Q r) → t τ P → t τ Q) (he : ∀ (τ : DSt) (P Q : R → Prop), (∀ r, P r → Q r) → we τ P → we τ Q) :
    ∀ (ds : List D) (τ : DSt) (P Q : List D → Prop), (∀ es, P es → Q es) → compW g t we ds τ P → compW g t we ds τ Q
  | [], _, _, _, f, h => f _ h
  | d :: ds, τ, P, Q, f, h => hg d τ _ _ (fun τ' h => ht τ' _ _ (fun k h => ite_imp (fun h => he τ' _ _ (fun r ⟨e, e1, h⟩ => ⟨e, e1, compW_mono hg ht he ds τ' _ _ (fun es h => f _ h) h⟩) h) (fun h => compW_mono hg ht he ds τ' _ _ f h) h) h) h
noncomputable def borS : Sl → Option Sl
  | .dat d => some (.dat d)
  | .own ds => some (.bor ds)
  | .bor ds => some (.bor ds)
  | _ => none
noncomputable def blkSt (nt : Nat) (cap : List Nat) (τ : DSt) : DSt := List.replicate nt none ++ cap.map fun i => ((τ[i]?).join).bind borS
theorem rep_blk {K : PySem.W.Frag} {H0 H : Hp} {τ : DSt} {σ : St} (hR : Rep K H0 τ σ H) (nt : Nat) (cap : List Nat) : Rep K H (blkSt nt cap τ) (List.replicate nt none ++ cap.map fun i => (σ[i]?).join) H := by
  have at_ : ∀ (i : Nat) (s : Sl), (blkSt nt cap τ)[i]? = some (some s) → nt ≤ i ∧ ∃ j t, cap[i - nt]? = some j ∧ τ[j]? = some (some t) ∧ borS t = some s := fun i s e => by
    unfold blkSt at e
    by_cases hi : i < nt
    · rw [List.getElem?_append_left (by rw [List.length_replicate]; exact hi)] at e
      have := List.mem_of_getElem? e
      rw [List.mem_replicate] at this
      cases this.2
    · rw [List.getElem?_append_right (by rw [List.length_replicate]; omega), List.length_replicate, List.getElem?_map] at e
      cases q : cap[i - nt]? with
      | none => rw [q] at e; cases e
      | some j =>
        rw [q] at e
        have e : ((τ[j]?).join).bind borS = some s := Option.some.inj e
        cases q2 : τ[j]? with
        | none => rw [q2] at e; cases e
        | some o =>
          rw [q2] at e
          cases o with
          | none => cases e
          | some t => exact ⟨by omega, j, t, rfl, q2, e⟩
  refine ⟨?_, Same.refl H, fun i s e => ?_, fun i j s t v _ e1 _ m _ _ _ => ?_⟩
  · unfold blkSt
    rw [List.length_append, List.length_append, List.length_map, List.length_map, List.length_replicate, List.length_replicate]
  · obtain ⟨hi, j, t, hc, ht, hb⟩ := at_ i s e
    obtain ⟨v, hv, q⟩ := hR.here j t ht
    refine ⟨v, ?_, ?_⟩
    · rw [List.getElem?_append_right (by rw [List.length_replicate]; omega), List.length_replicate, List.getElem?_map, hc]
      show some ((σ[j]?).join) = _
      rw [hv]; rfl
    · cases t with
      | dat d => cases hb; exact q
      | own ds => cases hb; obtain ⟨a, xs, e, _, q, al⟩ := q; exact ⟨a, xs, e, q, al⟩
      | bor ds => cases hb; obtain ⟨a, xs, e, q, al⟩ := q; exact ⟨a, xs, e, hR.same _ _ q, al⟩
      | dk _ => cases hb
      | dt _ => cases hb
      | ob _ => cases hb
      | ins _ _ _ => cases hb
  · obtain ⟨hi, j', t', hc, ht, hb⟩ := at_ i s e1
    cases t' with
    | dat d => cases hb; cases m
    | own ds => cases hb; cases m
    | bor ds => cases hb; cases m
    | dk _ => cases hb
    | dt _ => cases hb
    | ob _ => cases hb
    | ins _ _ _ => cases hb
end TK
end
section
set_option maxRecDepth 100000
set_option maxHeartbeats 1000000
namespace TK
open PySem PySem.Spec PyProof.Rows L2
theorem heap_same {C : Addr} {h h' : Heap} (sb : Heap.SameBut C h h') : ∀ b o, b ≠ C → h.get? b = some o → h'.get? b = some o := fun b o hb e => (sb.2 b hb).trans e
theorem blk_back {X : Cx} {pins : List (Addr × Obj)} {σ : St} {H2 H' : Hp} {s2 s1 : Shared} {scope : Scope} {C D0 : Addr} {fp : List Addr} {N : List Str} {pb : List (Addr × Obj)} {σ' : St} {vs : List V} {ys : Array Value} {h' : Heap}
    (I2 : Inv X pins σ H2 s2) (Ib : Inv (blk X scope C s2 H2 fp N) pb σ' H' s1) (f2 : ∀ b ∈ fp, FpOk X pins H2 b) (hC : s2.heap.objs.size ≤ C) (hD : s2.heap.objs.size ≤ D0) (hDC : D0 ≠ C) (hD' : H' D0 = none)
    (hl : s1.heap.PlainList D0 ys) (rv : Vals vs ys.toList) (hz : vs.length ≤ sizeLine) (sb : Heap.SameBut C s1.heap h') : Inv X pins σ (upd H' D0 (.lst vs)) { s1 with heap := h' } := by
  have ltC : ∀ b o, s2.heap.get? b = some o → b ≠ C := fun b o e => Nat.ne_of_lt (Nat.lt_of_lt_of_le (Heap.lt_size e) hC)
  have ltD : ∀ b o, s2.heap.get? b = some o → b ≠ D0 := fun b o e => Nat.ne_of_lt (Nat.lt_of_lt_of_le (Heap.lt_size e) hD)
  have keep := heap_same sb
  have base : Un (frs X.stack) fp H2 H' s2.heap s1.heap := Ib.base
  have hC' : H' C = none := Ib.free
  have neC : ∀ b u, H' b = some u → b ≠ C := fun b u e z => by rw [z, hC'] at e; cases e
  have neD : ∀ b u, H' b = some u → b ≠ D0 := fun b u e z => by rw [z, hD'] at e; cases e
  refine I2.call' (s' := { s1 with heap := h' }) (ch := fp) Ib.os ⟨fun b o e n hb hx => keep b o (ltC b o e) (base.keep b o e n hb hx), fun b o e n hb hx => ?_, fun b o e n hx => ?_, fun b o e hx => ?_, fun b xs e => ?_, fun b o u e => ?_, fun b ps e => ?_⟩ (fun b u e => ?_) Ib.bare (fun b hb => ?_)
  · obtain ⟨sl, q⟩ := base.slot b o e n hb hx
    exact ⟨sl, keep b _ (ltC b o e) q⟩
  · rw [upd_ne (ltD b o e)]; exact base.free b o e n hx
  · obtain ⟨o', q⟩ := base.there b o e hx
    exact ⟨o', keep b o' (ltC b o e) q⟩
  · have q := base.tups b xs e
    rw [upd_ne (neD b _ q)]; exact q
  · have q := base.frzs b o u e
    rw [upd_ne (neD b _ q)]; exact q
  · obtain ⟨more, q⟩ := base.tbls b ps e
    exact ⟨more, by rw [upd_ne (neD b _ q)]; exact q⟩
  · by_cases hb : b = D0
    · subst hb
      rw [upd_same] at e; cases e
      obtain ⟨n, ho⟩ := hl
      exact ⟨hz, ys.toList, n, rv, keep b _ hDC (by rw [ho])⟩
    · rw [upd_ne hb] at e
      refine (Ib.hok b u e).stay (fun c v hc q => keep c v ?_ q) (fun c q => by rw [upd_ne (neD c _ q)]; exact q) fun c xs q => by rw [upd_ne (neD c _ q)]; exact q
      rcases hc with z | z
      · rw [z]; exact neC b u e
      · exact neC c _ z
  · obtain ⟨_, a2, a3, a4, a5, a6⟩ := f2 b hb
    exact ⟨a4, a2, a5, a6⟩
section
variable {X : Cx} {H0 : Hp} {tg iter elt : Expr} {ifs : List Expr} {scope : Scope} {pos : Pos} {N : List Str} {nt : Nat} {cap : List Nat} {wi : WIE} {g : WG} {t : WT} {we : WE}
noncomputable def wComp (nt : Nat) (cap : List Nat) (wi : WIE) (g : WG) (t : WT) (we : WE) : WE := fun τ Q => wi τ fun ds => ds.length ≤ sizeLine ∧ compW g t we ds (blkSt nt cap τ) fun es => Q (.nw es)
theorem comp_gen {use : Option (Value → Sem Unit)} {QQ : Value → Shared → Prop} {P : List D → Prop} {npos : Pos} {pins : List (Addr × Obj)} {s : Shared} {σ : St} {H : Hp} {τ : DSt} (hc : X.calm = true) (B : Blk X scope N nt cap) (hi : DIE X H0 tg iter wi)
    (hg : ∀ C s H fp, DG (blk X scope C s H fp N) H tg g) (ht : ∀ C s H fp, DIf (blk X scope C s H fp N) H ifs t) (he : ∀ C s H fp, DE (blk X scope C s H fp N) H elt we) (hs : ∀ x, foldedSetIterable iter X.env x = pure x)
    (I : Inv X pins σ H s) (hR : Rep X.K H0 τ σ H) (hw : wi τ fun ds => ds.length ≤ sizeLine ∧ compW g t we ds (blkSt nt cap τ) P)
    (fin : ∀ (C D0 : Addr) (s2 s4 : Shared) (H2 H4 : Hp) (fp : List Addr) (pb : List (Addr × Obj)) (σ4 : St) (vs : List V) (ys : Array Value) (es : List D) (f : Flow), Inv X pins σ H2 s2 → Same H H2 → Inv (blk X scope C s2 H2 fp N) pb σ4 H4 s4 → (∀ b ∈ fp, FpOk X pins H2 b) →
      s2.heap.objs.size ≤ C → s2.heap.objs.size ≤ D0 → D0 ≠ C → H4 D0 = none → s4.heap.PlainList D0 ys → Vals vs ys.toList → vs.length ≤ sizeLine → Same H2 H4 → AllS X.K H4 es vs → P es → compPost (model X.prog X.w) X.A X.xe use QQ (.ref D0) C (.ok f) s4) :
    wpAny (model X.prog X.w) X.A (comprehension (.ListComp elt [⟨tg, iter, ifs, 0⟩] scope pos) scope X.env npos (newList []) false (eval iter X.env) use) QQ X.xe s := by
  refine wpAny_comprehension_free rfl hs (closureFor_clOf fun y hy e => I.ok.has y.1 (B.free y hy e)) B.kind B.names ?_
  refine thn (hi.pi pins s σ H (fun J H2 => Same H H2 ∧ ∃ ds, YlS X.K J ds H2 ∧ ds.length ≤ sizeLine ∧ compW g t we ds (blkSt nt cap τ) P) I
    ⟨τ, hR, hi.mono τ _ _ (fun ds h J H' sm yl => ⟨sm, ds, yl, h.1, h.2⟩) hw⟩) fun v s1 h1 => thn h1 fun itv s2 h2 => ?_
  obtain ⟨it, fp, tn, J, H2, e, I2, T, st2, f2, sm2, ds, yl, hz, hw2⟩ := h2
  subst e
  have hfl : ∀ b ∈ fp, b < s2.heap.objs.size := fun b hb => by
    obtain ⟨o, ho, _⟩ := T.obj _ _ st2 b hb
    exact Heap.lt_size ho
  have hR2 := hR.mono sm2
  refine wpAny_newObj_type (wpAny_newFunctionEnv B.cell (by intro y hy; simp at hy) (fun h₁ hns₁ hsb₁ => ?_) B.kind)
  dsimp only at hns₁ hsb₁ ⊢
  generalize hH2 : s2.heap.push { cls := .type "list", dict := none, data := .seq ([] : List Value).toArray } = Hq at hns₁ hsb₁ ⊢
  have hC : Hq.objs.size = s2.heap.objs.size + 1 := by rw [← hH2, Heap.size_push]
  have hDC : s2.heap.objs.size ≠ Hq.objs.size := by rw [hC]; exact Nat.ne_of_lt (Nat.lt_succ_self _)
  have hCle : s2.heap.objs.size ≤ Hq.objs.size := by rw [hC]; exact Nat.le_succ _
  have old : ∀ b o, s2.heap.get? b = some o → h₁.get? b = some o := fun b o e => hsb₁.extBut b o (by rw [hC]; exact Nat.ne_of_lt (Nat.lt_succ_of_lt (Heap.lt_size e))) (Heap.get?_push_of_some _ (hH2 ▸ Heap.get?_push_of_some _ e))
  have hacc : h₁.PlainList s2.heap.objs.size #[] := ⟨_, hsb₁.extBut _ _ hDC (Heap.get?_push_of_some _ (hH2 ▸ Heap.get?_push_size _ rfl))⟩
  generalize hCe : Hq.objs.size = C at hns₁ hsb₁ hC hDC hCle ⊢
  generalize hDe : s2.heap.objs.size = D0 at hC hDC hCle hacc ⊢
  have hfl' : ∀ b ∈ fp, b < D0 := fun b hb => hDe ▸ hfl b hb
  have hst₁ : tn 0 h₁ := T.keep _ _ _ st2 fun b _ o e => old b o e
  have Ib0 := blk_inv (C := C) (h' := h₁) (t' := s2.toks + ([] : List (Str × Value)).length) I2 B f2 hfl (by rw [hDe]; exact hCle) hns₁ old
  have hD2 : H2 D0 = none := I2.hok.fresh (by rw [hDe]; exact Nat.le_refl _)
  have nfs : D0 ∉ frs X.stack := fun z => by
    rcases List.mem_cons.mp (I2.stkSub _ z) with e | e
    · have := I2.lt; rw [← e, hDe] at this; exact Nat.lt_irrefl _ this
    · exact I2.nofs (by rw [hDe]; exact Nat.le_refl _) e
  have ncl : ∀ x c, (clOf X.env scope.names []).lookup x = some c → c ≠ D0 := fun x c h z => by
    obtain ⟨v, q⟩ := I2.cell x c (cl_cells I2 B h)
    have := q.lt
    rw [z, hDe] at this
    exact Nat.lt_irrefl _ this
  have pinD : ∀ {pb : List (Addr × Obj)} {σ' : St} {H' : Hp} {s' : Shared} {ys : Array Value} {n : Nat}, Inv (blk X scope C s2 H2 fp N) pb σ' H' s' → H' D0 = none → s'.heap.get? D0 = some { cls := .type "list", data := .seq ys n } →
      Inv (blk X scope C s2 H2 fp N) [(D0, { cls := .type "list", data := .seq ys n })] σ' H' s' := by
    intro pb σ' H' s' ys n I' n' e
    refine I'.pins_of fun p hp => ?_
    have e' : p = (D0, { cls := .type "list", data := .seq ys n }) := by simpa using hp
    subst e'
    exact ⟨e, n', hDC, nfs, fun v z => by cases z⟩
  have fpX : ∀ {H' : Hp} {ob : Obj}, (∀ b ∈ fp, H' b = none) → ∀ b ∈ fp, FpOk (blk X scope C s2 H2 fp N) [(D0, ob)] H' b := by
    intro H' ob hn b hb
    refine ⟨hn b hb, (Nat.ne_of_lt (Nat.lt_of_lt_of_le (hfl' b hb) hCle)), fun z => ?_, .inl hb, fun x c h => (f2 b hb).2.2.2.2.1 x c (cl_cells I2 B h), fun p hp => ?_⟩
    · rcases List.mem_cons.mp (I2.stkSub b z) with e | e
      · exact (f2 b hb).2.1 e
      · exact (f2 b hb).2.2.1 e
    · have e' : p = (D0, ob) := by simpa [blk] using hp
      subst e'
      exact (Nat.ne_of_lt (hfl' b hb)).symm
  let Inn : Nat → Shared → Prop := fun k s' => ∃ (i : Nat) (σ' : St) (H' : Hp) (τ' : DSt) (ys : Array Value) (nn : Nat) (vs : List V) (es : List D), Inv (blk X scope C s2 H2 fp N) [(D0, { cls := .type "list", data := .seq ys nn })] σ' H' s' ∧ Rep X.K H2 τ' σ' H' ∧ tn i s'.heap ∧
    (∀ b ∈ fp, H' b = none) ∧ H' D0 = none ∧ Vals vs ys.toList ∧ AllS X.K H' es vs ∧ i ≤ ds.length ∧ k = ds.length - i ∧ es.length ≤ i ∧ compW g t we (ds.drop i) τ' fun es' => P (es ++ es')
  have loop : ∀ s₃ : Shared, s₃ = { s2 with heap := h₁, toks := s2.toks + ([] : List (Str × Value)).length } →
      codeAny (model X.prog X.w) X.A (.compLoop (.ListComp elt [⟨tg, iter, ifs, 0⟩] scope pos) 0 (.ref it) (.ref D0) (compEnvC scope (clOf X.env scope.names []) C X.env))
        (compPost (model X.prog X.w) X.A X.xe use QQ (.ref D0) C) s₃ := by
    rintro s₃ rfl
    obtain ⟨nn, ho⟩ := id hacc
    refine compLoop_gen Inn ?_ ds.length ⟨0, _, H2, blkSt nt cap τ, #[], nn, [], [], pinD Ib0 hD2 ho, rep_blk hR2 nt cap, hst₁, fun b hb => (f2 b hb).1, hD2, .nil, AllS.nil, Nat.zero_le _, rfl, Nat.le_refl _, by simpa using hw2⟩
    rintro k s3 ⟨i, σ3, H3, τ3, ys, nn, vs, es, I3, R3, st3, fr3, d3, rv3, al3, hi3, rfl, hes, w3⟩
    have hsame3 : Same H2 H3 := R3.same
    by_cases hlt : i < ds.length
    · refine wpAny_mono (T.item (blk X scope C s2 H2 fp N) rfl rfl rfl hc i _ s3 σ3 H3 (fun _ _ => False) I3 (fpX fr3) st3 (yl.go H3 hsame3 i hlt)) (fun r s4 ⟨u, hr, h4⟩ => ?_) fun _ _ z => z
      subst hr
      refine wpAny_mono h4 (fun _ s5 ⟨x, H5, I5, r5, y5, st5, fr5⟩ => ?_) fun _ _ z => z
      obtain ⟨s35, ix⟩ := yl.yld H3 hsame3 i x H5 _ (List.getElem?_eq_getElem hlt) y5
      rw [List.drop_eq_getElem_cons hlt] at w3
      have I5' := I5.pinned (fpX fr5) (T.obj _ _ st5)
      have again : ∀ {σ7 : St} {H7 : Hp} {s7 : Shared} {τ7 : DSt} {ys7 : Array Value} {nn7 : Nat} {vs7 : List V} {es7 : List D}, Inv (blk X scope C s2 H2 fp N) (pinsAt fp s5.heap) σ7 H7 s7 → Rep X.K H2 τ7 σ7 H7 → H7 D0 = none → s7.heap.get? D0 = some { cls := .type "list", data := .seq ys7 nn7 } →
          Vals vs7 ys7.toList → AllS X.K H7 es7 vs7 → es7.length ≤ i + 1 → compW g t we (ds.drop (i + 1)) τ7 (fun es' => P (es7 ++ es')) → ∃ m, m < ds.length - i ∧ Inn m s7 := by
        intro σ7 H7 s7 τ7 ys7 nn7 vs7 es7 I7 R7 d7 o7 rv7 al7 hes7 w7
        have st7 : tn (i + 1) s7.heap := T.keep _ _ _ st5 fun b hb o e => (I7.pin (b, o) (List.mem_append_right _ (mem_pinsAt hb e))).1
        refine ⟨ds.length - (i + 1), by omega, i + 1, σ7, H7, τ7, ys7, nn7, vs7, es7, pinD I7 d7 o7, R7, st7, fun b hb => ?_, d7, rv7, al7, hlt, rfl, hes7, w7⟩
        obtain ⟨o, e, _⟩ := T.obj _ _ st5 b hb
        exact (I7.pin (b, o) (List.mem_append_right _ (mem_pinsAt hb e))).2.1
      refine wpAny_mono ((hg C s2 H2 fp).pg _ s5 σ3 H5 x u (fun σ6 H6 => ∃ τ6, Rep X.K H2 τ6 σ6 H6 ∧ Same H5 H6 ∧ t τ6 fun k => if k = true then we τ6 fun r => ∃ e, r = .st e ∧ compW g t we (ds.drop (i + 1)) τ6 fun es' => P (es ++ (e :: es'))
          else compW g t we (ds.drop (i + 1)) τ6 fun es' => P (es ++ es')) I5' r5 ⟨τ3, ds[i], R3.mono s35, ix, (hg C s2 H2 fp).mono _ _ _ _ (fun τ6 h6 σ6 H6 s56 R6 => ⟨τ6, R6, s56, h6⟩) w3⟩) (fun _ s6 ⟨σ6, H6, I6, τ6, R6, s56, w6⟩ => ?_) fun _ _ z => z
      refine wpAny_mono ((ht C s2 H2 fp).pt _ s6 σ6 H6 (fun k H7 => Same H6 H7 ∧ if k = true then we τ6 fun r => ∃ e, r = .st e ∧ compW g t we (ds.drop (i + 1)) τ6 fun es' => P (es ++ (e :: es'))
          else compW g t we (ds.drop (i + 1)) τ6 fun es' => P (es ++ es')) I6 ⟨τ6, R6, (ht C s2 H2 fp).mono τ6 _ _ (fun k h H7 s67 => ⟨s67, h⟩) w6⟩) (fun ok s7 ⟨H7, I7, s67, w7⟩ => ?_) fun _ _ z => z
      have pd : ∀ {σ' : St} {H' : Hp} {s' : Shared}, Inv (blk X scope C s2 H2 fp N) ([(D0, { cls := .type "list", data := .seq ys nn })] ++ pinsAt fp s5.heap) σ' H' s' → s'.heap.get? D0 = some { cls := .type "list", data := .seq ys nn } ∧ H' D0 = none := fun I' =>
        ⟨(I'.pin (D0, _) (List.mem_append_right _ (List.mem_append_left _ List.mem_cons_self))).1, (I'.pin (D0, _) (List.mem_append_right _ (List.mem_append_left _ List.mem_cons_self))).2.1⟩
      have pf : ∀ {σ' : St} {H' : Hp} {s' : Shared}, Inv (blk X scope C s2 H2 fp N) ([(D0, { cls := .type "list", data := .seq ys nn })] ++ pinsAt fp s5.heap) σ' H' s' → Inv (blk X scope C s2 H2 fp N) (pinsAt fp s5.heap) σ' H' s' := fun I' =>
        I'.pins_of fun p hp => I'.pin p (List.mem_append_right _ (List.mem_append_right _ hp))
      have s37 : Same H3 H7 := s35.trans (s56.trans s67)
      cases ok with
      | false =>
        rw [if_neg Bool.false_ne_true] at w7 ⊢
        exact again (pf I7) (R6.mono s67) (pd I7).2 (pd I7).1 rv3 (al3.mono (Kp.of s37) _ _) (by omega) w7
      | true =>
        rw [if_pos rfl] at w7 ⊢
        refine wpAny_mono ((he C s2 H2 fp).pe _ s7 σ6 H7 (fun v H8 => Same H7 H8 ∧ ∃ e, IsS X.K H8 e v ∧ compW g t we (ds.drop (i + 1)) τ6 fun es' => P (es ++ (e :: es'))) I7
          ⟨τ6, R6.mono s67, (he C s2 H2 fp).mono τ6 _ _ (fun r ⟨e, e1, h⟩ v H8 s78 ir => ⟨s78, e, by subst e1; exact ir, h⟩) w7⟩) (fun y s8 ⟨v8, H8, I8, rv8, s78, e8, ie8, w8⟩ => ?_) fun _ _ z => z
        obtain ⟨o8, d8⟩ := pd I8
        have hys : ys.size ≤ sizeLine := by
          have e1 := rv3.length
          have e2 := al3.length
          have e4 : ys.toList.length = ys.size := by simp
          omega
        refine wpAny_list_append_plain (hsz := hys) ⟨nn, o8⟩ fun h₅ hl₅ hs₅ => ?_
        have I9 : Inv (blk X scope C s2 H2 fp N) (pinsAt fp s5.heap) σ6 H8 { s8 with heap := h₅ } := by
          refine (pf I8).turned (t' := s8.toks) (it := D0) (fun b o hb e => (hs₅.2 b hb).trans e) d8 hDC (.inr (by rw [← hDe]; exact Nat.le_refl _)) ncl (fun p hp z => ?_)
          obtain ⟨q1, _⟩ := of_pinsAt (by simpa [blk] using hp)
          exact Nat.ne_of_lt (hfl' _ q1) z
        obtain ⟨nn9, o9⟩ := hl₅
        refine again I9 (R6.mono (s67.trans s78)) d8 o9 (vs7 := vs ++ [v8]) (es7 := es ++ [e8]) ?_ ((al3.mono (Kp.of (s37.trans s78)) _ _).append (AllS.cons ie8 AllS.nil)) (by rw [List.length_append]; simpa using hes) ?_
        · have : (ys.push y).toList = ys.toList ++ [y] := by simp
          rw [this]
          exact rv3.append (.cons rv8 .nil)
        · simpa using w8
    · have e : i = ds.length := by omega
      subst e
      refine wpAny_mono (T.done (blk X scope C s2 H2 fp N) rfl rfl rfl hc ds.length _ s3 σ3 H3 (fun _ _ => False) I3 (fpX fr3) st3 (yl.stop H3 hsame3)) (fun r s4 ⟨hr, I4⟩ => ?_) fun _ _ z => z
      subst hr
      have o4 := (I4.pin (D0, _) (List.mem_append_right _ List.mem_cons_self)).1
      rw [List.drop_length] at w3
      have w3 : P (es ++ []) := w3
      rw [List.append_nil] at w3
      have hvs : vs.length ≤ sizeLine := by rw [← al3.length]; omega
      exact fin C D0 s2 s4 H2 H3 fp _ σ3 vs ys es _ I2 sm2 I4 f2 (by rw [hDe]; exact hCle) (by rw [hDe]; exact Nat.le_refl _) hDC d3 ⟨nn, o4⟩ rv3 hvs hsame3 al3 w3
  exact codeAny_compStart_list (loop _ rfl) (T.self _ 0 _ _ _ hst₁ (loop _ rfl))
theorem DE.comp (hc : X.calm = true) (B : Blk X scope N nt cap) (hi : DIE X H0 tg iter wi) (hg : ∀ C s H fp, DG (blk X scope C s H fp N) H tg g) (ht : ∀ C s H fp, DIf (blk X scope C s H fp N) H ifs t)
    (he : ∀ C s H fp, DE (blk X scope C s H fp N) H elt we) (hs : ∀ x, foldedSetIterable iter X.env x = pure x := by intro _; rfl) :
    DE X H0 (.ListComp elt [⟨tg, iter, ifs, 0⟩] scope pos) (wComp nt cap wi g t we) where
  mono := fun τ P Q f h => hi.mono τ _ _ (fun ds h => ⟨h.1, compW_mono (hg 0 X.s₀ X.H₀ []).mono (ht 0 X.s₀ X.H₀ []).mono (he 0 X.s₀ X.H₀ []).mono ds _ _ _ (fun es h => f _ h) h.2⟩) h
  pe := by
    intro pins s σ H Q I ⟨τ, hR, hw⟩
    rw [eval_ListComp]
    refine comp_gen hc B hi hg ht he hs I hR hw fun C D0 s2 s4 H2 H4 fp pb σ4 vs ys es f I2 sm2 I4 f2 hC hD hDC hn hl rv hz sm4 al w3 => ?_
    obtain ⟨m4, hn4, _⟩ := id I4.loc
    refine ⟨m4, hn4, fun h' sb => ?_⟩
    exact ⟨.ref D0, _, blk_back I2 I4 f2 hC hD hDC hn hl rv hz sb, rfl, w3 _ _ (sm2.trans (sm4.trans (same_new hn _))) ⟨D0, vs, rfl, sm2.free (I2.hok.fresh hD), upd_same, al.mono (Kp.of (same_new hn _)) _ _⟩⟩
end
end TK
end
section
set_option maxRecDepth 100000
set_option maxHeartbeats 1000000
namespace TK
open PySem PySem.Spec PyProof.Rows L2
section
variable {X : Cx} {H0 : Hp} {tg iter elt : Expr} {ifs : List Expr} {scope : Scope} {pos pos' spos : Pos} {N : List Str} {nt : Nat} {cap : List Nat} {wi : WIE} {g : WG} {t : WT} {we : WE}
end
end TK
end
section
set_option maxRecDepth 100000
set_option maxHeartbeats 1000000
namespace TK
open PySem PySem.Spec PyProof.Rows L2
section
variable {X : Cx} {H0 : Hp} {a b c e tg : Expr} {pos : Pos} {wa wb we : WE} {wr : WA}
theorem turnedL {pins : List (Addr × Obj)} {σ : St} {H : Hp} {s : Shared} {h' : Heap} {t' : Nat} {wr : List Addr} (I : Inv X pins σ H s) (k : ∀ b o, b ∉ wr → s.heap.get? b = some o → h'.get? b = some o) (hf : ∀ b ∈ wr, FpOk X pins H b) :
    Inv X pins σ H { s with heap := h', toks := t' } := by
  have nit : ∀ b u, H b = some u → b ∉ wr := fun b u e z => by have := (hf b z).1; rw [e] at this; cases this
  refine I.step (g' := s.gens) (d' := s.drawn) (ch := wr) (fun b hb => ?_) (fun b o _ _ hc e _ => k b o hc e) (fun b o _ _ hc e _ => ⟨o.slots, k b o hc e⟩) (fun _ _ _ _ n => n)
    (fun b o hc e => ⟨o, k b o hc e⟩) (fun _ _ e => e) (fun _ _ _ e => e) (fun b ps e => ⟨#[], by rw [e]; simp⟩) (fun m hm => ?_) (fun b u e => ?_) I.bare
  · obtain ⟨_, f1, _, f3, f4, f5⟩ := hf b hb
    exact ⟨f3, f1, f4, f5⟩
  · obtain ⟨o, es, ep, ho, r⟩ := hm
    exact ⟨o, es, ep, k _ o (fun z => (hf _ z).2.1 rfl) ho, r⟩
  · refine (I.hok b u e).stay (fun c v hc q => k c v ?_ q) (fun _ q => q) fun _ _ q => q
    rcases hc with z | z
    · rw [z]; exact nit b u e
    · exact nit c _ z
noncomputable def Its (x : Str) : It := ⟨fun i _ => i < x.cps.size, fun i H v H' => H' = H ∧ ∃ c, x.cps[i]? = some c ∧ v = .str ⟨#[c]⟩, fun i _ => i = x.cps.size⟩
theorem turn_str {P : Program} {w : World} {K : PySem.W.Frag} {tg : Expr} {it : Addr} {ty : String} {x : Str} {t : Tok} (hty : ty = "str_ascii_iterator" ∨ ty = "str_iterator") : Turn P w K tg (Its x) [it] it (fun i h => h.IsStrIter it ty x t i) where
  mem := by simp
  obj := fun i h st b hb => by
    have e : b = it := by simpa using hb
    subst e
    obtain ⟨o, e, c, d⟩ := st
    exact ⟨o, e, fun v z => by rw [d] at z; cases z⟩
  keep := fun i h h' ⟨o, e, r⟩ k => ⟨o, k it (by simp) o e, r⟩
  item := by
    intro X hP hw hK hc i pins s σ H E I hf st hg
    subst hP hw hK
    have W : Walks X.prog X.w X.A it [it] [it] x.cps.size (SignAt x) (fun i h => h.IsStrIter it ty x t i) := by
      rcases hty with rfl | rfl
      · exact Walks.strAscii (I.ok.hd hc) it x t
      · exact Walks.strWide (I.ok.hd hc) it x t
    refine W.item i s _ _ hg st fun v h' tk hv st' k => ?_
    obtain ⟨c, u, hc', rfl⟩ := hv
    have I1 : Inv X pins σ H { s with heap := h', toks := tk } := turnedL I k hf
    obtain ⟨o, e, cl, d⟩ := id st'
    refine ⟨_, rfl, go_of (s := { s with heap := h', toks := tk }) e cl d (by rcases hty with rfl | rfl <;> decide) ⟨.str ⟨#[c]⟩, H, I1, ⟨u, rfl⟩, ⟨rfl, c, hc', rfl⟩, st', fun b hb => (hf b hb).1⟩⟩
  done := by
    intro X hP hw hK hc i pins s σ H E I hf st hg
    subst hP hw hK
    have hg : i = x.cps.size := hg
    subst hg
    have W : Walks X.prog X.w X.A it [it] [it] x.cps.size (SignAt x) (fun i h => h.IsStrIter it ty x t i) := by
      rcases hty with rfl | rfl
      · exact Walks.strAscii (I.ok.hd hc) it x t
      · exact Walks.strWide (I.ok.hd hc) it x t
    exact W.done s _ _ st fun h' tk k => ⟨rfl, turnedL I k hf⟩
  self := fun A i s Q E st h => by
    rcases hty with rfl | rfl
    · exact wpAny_pyIter_striter_ascii st h
    · exact wpAny_pyIter_striter_wide st h
noncomputable def sgnD (x : Str) : List D := x.cps.toList.map fun c => .str ⟨#[c]⟩
theorem yls_str {K : PySem.W.Frag} {H : Hp} {x : Str} : YlS K (Its x) (sgnD x) H where
  go := fun H' _ i hi => by
    have : i < x.cps.size := by simpa [sgnD] using hi
    exact this
  yld := fun H' _ i v H'' d hd ⟨e, c, hc, hv⟩ => by
    subst e hv
    refine ⟨Same.refl _, ?_⟩
    unfold sgnD at hd
    rw [List.getElem?_map] at hd
    have : x.cps.toList[i]? = some c := by simpa using hc
    rw [this] at hd
    have e : D.str ⟨#[c]⟩ = d := Option.some.inj hd
    subst e
    exact IsS.s_str
  stop := fun H' _ => by
    show (sgnD x).length = x.cps.size
    simp [sgnD]
theorem DIE.str (he : DE X H0 e we) : DIE X H0 tg e (fun τ Q => we τ fun r => ∃ x, r = .st (.str x) ∧ Q (sgnD x)) where
  mono := fun τ P Q f h => he.mono τ _ _ (fun r ⟨ds, e1, q⟩ => ⟨ds, e1, f _ q⟩) h
  pi := by
    intro pins s σ H R I ⟨τ, hR, h⟩
    refine thn (he.pe pins s σ H (fun v H1 => Same H H1 ∧ ∃ x, v = .str x ∧ ∀ J H', Same H H' → YlS X.K J (sgnD x) H' → R J H') I ⟨τ, hR, he.mono τ _ _ (fun r ⟨x, e1, q⟩ v H1 s1 ir => ⟨s1, x, by subst e1; exact ir, q⟩) h⟩) fun u s1 ⟨v, H1, I1, rv, sm, x, e1, q⟩ => ?_
    subst e1
    obtain ⟨t, rfl⟩ := rv
    have fin : ∀ (ty : String), (ty = "str_ascii_iterator" ∨ ty = "str_iterator") → PIE X pins σ tg R (.ref s1.heap.objs.size) { s1 with heap := s1.heap.push { cls := .type ty, data := .fields #[.str x t, .int 0 0] } } := fun ty hty => by
      refine ⟨s1.heap.objs.size, [s1.heap.objs.size], _, _, H1, rfl, I1.kept (t' := s1.toks) fun b o e => Heap.get?_push_of_some _ e, turn_str (ty := ty) (x := x) (t := t) hty, ⟨_, Heap.get?_push_size _ rfl, rfl, rfl⟩, fun b hb => ?_, q _ _ sm yls_str⟩
      have e : b = s1.heap.objs.size := by simpa using hb
      subst e
      exact I1.fpOk (Nat.le_refl _) (I1.hok.fresh (Nat.le_refl _))
    cases ha : x.cps.all (· < 128)
    · exact wpAny_pyIter_wide ha (fin _ (.inr rfl))
    · exact wpAny_pyIter_ascii ha (fin _ (.inl rfl))
end
end TK
end
section
set_option maxRecDepth 100000
set_option maxHeartbeats 1000000
namespace TK
open PySem PySem.Spec PyProof.Rows L2
section
variable {X : Cx} {H0 : Hp} {a b c e tg : Expr} {pos : Pos} {wa wb we : WE} {wr : WA}
theorem turnedT {pins : List (Addr × Obj)} {σ : St} {H : Hp} {s : Shared} {h' : Heap} {t' : Nat} {wr : List Addr} {T : Addr} {xs : List V} {its : List Value} (I : Inv X pins σ H s) (k : ∀ b o, b ∉ wr → s.heap.get? b = some o → h'.get? b = some o) (hf : ∀ b ∈ wr, FpOk X pins H b)
    (hT : s.heap.objs.size ≤ T) (ht : IsTup h' T its.toArray) (rv : Vals xs its) (hz : xs.length ≤ sizeLine) : Inv X pins σ (upd H T (.tup xs)) { s with heap := h', toks := t' } := by
  have nit : ∀ b u, H b = some u → b ∉ wr := fun b u e z => by have := (hf b z).1; rw [e] at this; cases this
  have hTn : H T = none := I.hok.fresh hT
  have neT : ∀ b u, H b = some u → b ≠ T := fun b u e z => by rw [z, hTn] at e; cases e
  refine I.step (g' := s.gens) (d' := s.drawn) (ch := wr) (fun b hb => ?_) (fun b o _ _ hc e _ => k b o hc e) (fun b o _ _ hc e _ => ⟨o.slots, k b o hc e⟩) (fun b o _ e n => by rw [upd_ne (Nat.ne_of_lt (Nat.lt_of_lt_of_le (Heap.lt_size e) hT))]; exact n)
    (fun b o hc e => ⟨o, k b o hc e⟩) (fun b _ e => by rw [upd_ne (neT b _ e)]; exact e) (fun b _ _ e => by rw [upd_ne (neT b _ e)]; exact e) (fun b ps e => ⟨#[], by rw [upd_ne (neT b _ e), e]; simp⟩) (fun m hm => ?_) (fun b u e => ?_) I.bare
  · obtain ⟨_, f1, _, f3, f4, f5⟩ := hf b hb
    exact ⟨f3, f1, f4, f5⟩
  · obtain ⟨o, es, ep, ho, r⟩ := hm
    exact ⟨o, es, ep, k _ o (fun z => (hf _ z).2.1 rfl) ho, r⟩
  · by_cases hb : b = T
    · subst hb
      rw [upd_same] at e; cases e
      exact ⟨hz, its, rv, ht⟩
    · rw [upd_ne hb] at e
      refine (I.hok b u e).stay (fun c v hc q => k c v ?_ q) (fun c q => by rw [upd_ne (neT c _ q)]; exact q) fun c xs q => by rw [upd_ne (neT c _ q)]; exact q
      rcases hc with z | z
      · rw [z]; exact nit b u e
      · exact nit c _ z
noncomputable def enmD (ds : List D) : List D := ds.zipIdx.map fun (p : D × Nat) => .tup [.int (p.2 : Int), p.1]
theorem enmD_get {ds : List D} {i : Nat} {d : D} (h : (enmD ds)[i]? = some d) : ∃ x, ds[i]? = some x ∧ d = .tup [.int (i : Int), x] := by
  unfold enmD at h
  rw [List.getElem?_map, List.getElem?_zipIdx] at h
  cases e : ds[i]? with
  | none => rw [e] at h; cases h
  | some x =>
    rw [e] at h
    have h : D.tup [.int ((0 + i : Nat) : Int), x] = d := Option.some.inj h
    exact ⟨x, rfl, by rw [← h, Nat.zero_add]⟩
theorem enmD_length (ds : List D) : (enmD ds).length = ds.length := by simp [enmD]
noncomputable def Ies (x : Str) : It := ⟨fun i _ => i < x.cps.size, fun i H v H' => ∃ T c, x.cps[i]? = some c ∧ H T = none ∧ v = .ref T ∧ H' = upd H T (.tup [.int (i : Int), .str ⟨#[c]⟩]), fun i _ => i = x.cps.size⟩
theorem turn_enumS {P : Program} {w : World} {K : PySem.W.Frag} {elts : List Expr} {kk : Nat} {pt : Pos} {en it : Addr} {x : Str} {t : Tok} (hne : en ≠ it) :
    Turn P w K (.Tuple elts kk pt) (Ies x) [en, it] en (fun i h => (∃ old, IsEnum h en it i old) ∧ h.IsStrIter it (strIterType x) x t i) where
  mem := by simp
  obj := fun i h st b hb => by
    obtain ⟨⟨old, he⟩, o, ho, _, d⟩ := st
    rcases List.mem_cons.mp hb with rfl | hb
    · exact ⟨_, he, fun v z => by cases z⟩
    · have e : b = it := by simpa using hb
      subst e
      exact ⟨o, ho, fun v z => by rw [d] at z; cases z⟩
  keep := fun i h h' ⟨⟨old, he⟩, o, ho, r⟩ k => ⟨⟨old, k en (by simp) _ he⟩, o, k it (by simp) o ho, r⟩
  item := by
    intro X hP hw hK hc i pins s σ H E I hf st hg
    subst hP hw hK
    have Dr : Draws X.prog X.w X.A.in1 it [it] x.cps.size (fun i v => ∃ c u, x.cps[i]? = some c ∧ v = .str ⟨#[c]⟩ u) (fun i h => h.IsStrIter it (strIterType x) x t i) := by
      unfold strIterType
      split
      · exact Draws.strAscii (A := X.A.in1) (show X.A.in1.handled = none from I.ok.hd hc) it x t
      · exact Draws.strWide (A := X.A.in1) (show X.A.in1.handled = none from I.ok.hd hc) it x t
    have W := WalksT.enumerateD Dr en hne (by simpa using hne) (by simp)
    have hfw : ∀ b ∈ [en, it], FpOk X pins H b := hf
    refine W.item i s _ _ hg st fun T vals h' tk hv hT hIT mid k => ?_
    obtain ⟨t1, y, ⟨c, u, hc', rfl⟩, rfl⟩ := hv
    refine ⟨_, rfl, W.go elts kk pt i T { s with heap := h', toks := tk } _ _ mid fun h2 st2 k2 => ?_⟩
    have kk2 : ∀ b o, b ∉ [en, it] → s.heap.get? b = some o → h2.get? b = some o := fun b o hb e => k2 b o hb (k b o hb e)
    have hap := W.apart i T h' mid
    have hIT2 : IsTup h2 T ([Value.int (i : Int) t1, Value.str ⟨#[c]⟩ u]).toArray := by
      obtain ⟨o, ho, r⟩ := hIT
      exact ⟨o, k2 T o hap ho, r⟩
    have I2 := turnedT (t' := tk) (xs := [.int (i : Int), .str ⟨#[c]⟩]) I kk2 hfw hT hIT2 (.cons ⟨t1, rfl⟩ (.cons ⟨u, rfl⟩ .nil)) (by show 2 ≤ sizeLine; decide)
    refine ⟨.ref T, _, I2, rfl, ⟨T, c, hc', I.hok.fresh hT, rfl, rfl⟩, st2, fun b hb => ?_⟩
    rw [upd_ne (show b ≠ T from fun z => hap (by rw [← z]; exact hb))]
    exact (hf b hb).1
  done := by
    intro X hP hw hK hc i pins s σ H E I hf st hg
    subst hP hw hK
    have hg : i = x.cps.size := hg
    subst hg
    have Dr : Draws X.prog X.w X.A.in1 it [it] x.cps.size (fun i v => ∃ c u, x.cps[i]? = some c ∧ v = .str ⟨#[c]⟩ u) (fun i h => h.IsStrIter it (strIterType x) x t i) := by
      unfold strIterType
      split
      · exact Draws.strAscii (A := X.A.in1) (show X.A.in1.handled = none from I.ok.hd hc) it x t
      · exact Draws.strWide (A := X.A.in1) (show X.A.in1.handled = none from I.ok.hd hc) it x t
    have W := WalksT.enumerateD Dr en hne (by simpa using hne) (by simp)
    exact W.done s _ _ st fun h' tk k => ⟨rfl, turnedL I k hf⟩
  self := fun A i s Q E ⟨⟨old, he⟩, _⟩ h => wpAny_pyIter_enum he h
theorem yls_enumS {K : PySem.W.Frag} {H : Hp} {x : Str} : YlS K (Ies x) (enmD (sgnD x)) H where
  go := fun H' _ i hi => by
    have : i < x.cps.size := by rw [enmD_length] at hi; simpa [sgnD] using hi
    exact this
  yld := fun H' _ i v H'' d hd ⟨T, c, hc, hT, hv, hH⟩ => by
    subst hH hv
    refine ⟨same_new hT _, ?_⟩
    obtain ⟨y, hy, rfl⟩ := enmD_get hd
    unfold sgnD at hy
    rw [List.getElem?_map] at hy
    have : x.cps.toList[i]? = some c := by simpa using hc
    rw [this] at hy
    have e : D.str ⟨#[c]⟩ = y := Option.some.inj hy
    subst e
    exact IsS.s_tup upd_same (AllS.cons IsS.s_int (AllS.cons IsS.s_str AllS.nil))
  stop := fun H' _ => by
    show (enmD (sgnD x)).length = x.cps.size
    rw [enmD_length]; simp [sgnD]
noncomputable def Iel (K : PySem.W.Frag) (l : Addr) : It := ⟨fun i H => ∃ xs x, SqL K H l xs ∧ xs[i]? = some x, fun i H v H' => ∃ T x, (∀ xs, SqL K H l xs → xs[i]? = some x) ∧ H T = none ∧ v = .ref T ∧ H' = upd H T (.tup [.int (i : Int), x]), fun i H => ∃ xs, SqL K H l xs ∧ xs.length = i⟩
theorem turn_enumL {P : Program} {w : World} {K : PySem.W.Frag} {elts : List Expr} {kk : Nat} {pt : Pos} {en it l : Addr} (hne : en ≠ it) (hle : l ≠ en) (hli : l ≠ it) :
    Turn P w K (.Tuple elts kk pt) (Iel K l) [en, it] en (fun i h => (∃ old, IsEnum h en it i old) ∧ h.IsListIter it l i) where
  mem := by simp
  obj := fun i h st b hb => by
    obtain ⟨⟨old, he⟩, o, ho, _, d⟩ := st
    rcases List.mem_cons.mp hb with rfl | hb
    · exact ⟨_, he, fun v z => by cases z⟩
    · have e : b = it := by simpa using hb
      subst e
      exact ⟨o, ho, fun v z => by rw [d] at z; cases z⟩
  keep := fun i h h' ⟨⟨old, he⟩, hi⟩ k => ⟨⟨old, k en (by simp) _ he⟩, hi.at fun o e => k it (by simp) o e⟩
  item := by
    intro X hP hw hK hc i pins s σ H E I hf st hg
    subst hP hw hK
    obtain ⟨xs, x, hq, hx⟩ := hg
    obtain ⟨its, rv, p, hz⟩ := I.list hq
    have W := WalksT.enumerate (prog := X.prog) (w := X.w) (A := X.A) (I.ok.hd hc) en it l hne hle hli its.toArray
    obtain ⟨u, hu, ru⟩ := rv.get hx
    have hlt : i < its.toArray.size := by
      rcases Nat.lt_or_ge i its.length with h | h
      · simpa using h
      · rw [List.getElem?_eq_none_iff.mpr h] at hu; cases hu
    refine W.item i s _ _ hlt ⟨st.1, st.2, p.isList⟩ fun T vals h' tk hv hT hIT mid k => ?_
    obtain ⟨t1, y, hy, rfl⟩ := hv
    have ey : y = u := by
      have : its[i]? = some y := by simpa using hy
      rw [hu] at this; exact (Option.some.inj this).symm
    subst ey
    refine ⟨_, rfl, W.go elts kk pt i T { s with heap := h', toks := tk } _ _ mid fun h2 st2 k2 => ?_⟩
    have kk2 : ∀ b o, b ∉ [en, it] → s.heap.get? b = some o → h2.get? b = some o := fun b o hb e => k2 b o hb (k b o hb e)
    have hap := W.apart i T h' mid
    have hIT2 : IsTup h2 T ([Value.int (i : Int) t1, y]).toArray := by
      obtain ⟨o, ho, r⟩ := hIT
      exact ⟨o, k2 T o hap ho, r⟩
    have I2 := turnedT (t' := tk) (xs := [.int (i : Int), x]) I kk2 hf hT hIT2 (.cons ⟨t1, rfl⟩ (.cons ru .nil)) (by show 2 ≤ sizeLine; decide)
    refine ⟨.ref T, _, I2, rfl, ⟨T, x, fun ys hy => by rw [I.list_inj hy hq]; exact hx, I.hok.fresh hT, rfl, rfl⟩, ⟨st2.1, st2.2.1⟩, fun b hb => ?_⟩
    rw [upd_ne (show b ≠ T from fun z => hap (by rw [← z]; exact hb))]
    exact (hf b hb).1
  done := by
    intro X hP hw hK hc i pins s σ H E I hf st hg
    subst hP hw hK
    obtain ⟨xs, hq, hx⟩ := hg
    obtain ⟨its, rv, p, hz⟩ := I.list hq
    have W := WalksT.enumerate (prog := X.prog) (w := X.w) (A := X.A) (I.ok.hd hc) en it l hne hle hli its.toArray
    have hl := rv.length
    have e : i = its.toArray.size := by simp; omega
    subst e
    exact W.done s _ _ ⟨st.1, st.2, p.isList⟩ fun h' tk k => ⟨rfl, turnedL I k hf⟩
  self := fun A i s Q E ⟨⟨old, he⟩, _⟩ h => wpAny_pyIter_enum he h
theorem yls_enumL {K : PySem.W.Frag} {H : Hp} {l : Addr} {xs : List V} {ds : List D} (sq : SqL K H l xs) (al : AllS K H ds xs) : YlS K (Iel K l) (enmD ds) H where
  go := fun H' s i hi => by
    rw [enmD_length] at hi
    exact ⟨xs, xs[i]'(by rw [← al.length]; exact hi), s.seq sq, List.getElem?_eq_getElem _⟩
  yld := fun H' s i v H'' d hd ⟨T, x, hx, hT, hv, hH⟩ => by
    subst hH hv
    refine ⟨same_new hT _, ?_⟩
    obtain ⟨y, hy, rfl⟩ := enmD_get hd
    obtain ⟨v, hv, q⟩ := al.get hy
    rw [hx xs (s.seq sq)] at hv; cases hv
    exact IsS.s_tup upd_same (AllS.cons IsS.s_int (AllS.cons (q.mono (Kp.of (s.trans (same_new hT _))) _ _) AllS.nil))
  stop := fun H' s => ⟨xs, s.seq sq, by rw [enmD_length]; exact al.length.symm⟩
theorem DIE.enumS {elts : List Expr} {kk : Nat} {pt p : Pos} (hg : Gl X "enumerate") (hm : X.mg "enumerate" = none) (hv : bootBuiltins "enumerate" = some (.type "enumerate")) (ha : DA X H0 [a] wr) (he : starEach [a] X.env = (false, eval a X.env) :: starEach [] X.env := by rfl) (hpl : (backTo pos (starEach [] X.env)).any (·.1) = false := by rfl) :
    DIE X H0 (.Tuple elts kk pt) (.Call (.Name "enumerate" p) [a] [] pos) (fun τ Q => wr τ fun rs => (∃ x, rs = [.st (.str x)] ∧ Q (enmD (sgnD x))) ∨ ∃ r ds, rs = [r] ∧ lsAny r = some ds ∧ Q (enmD ds)) where
  mono := fun τ P Q f h => ha.mono τ _ _ (fun r h => h.imp (fun ⟨x, e1, q⟩ => ⟨x, e1, f _ q⟩) fun ⟨r, ds, e1, e2, q⟩ => ⟨r, ds, e1, e2, f _ q⟩) h
  pi := by
    intro pins s σ H R I ⟨τ, hR, h⟩
    refine wpAny_Call_Name_kw (ld_blt I hg hm hv ?_ (by decide) (by decide))
    refine PyProof.Rows.callWith_type1 (thn (ha.pa pos pins s σ H (fun vs H1 => Same H H1 ∧ ((∃ x, vs = [.str x] ∧ ∀ J H', Same H H' → YlS X.K J (enmD (sgnD x)) H' → R J H') ∨ ∃ l xs ds, vs = [.ref l] ∧ SqL X.K H1 l xs ∧ AllS X.K H1 ds xs ∧ ∀ J H', Same H H' → YlS X.K J (enmD ds) H' → R J H')) I
      ⟨τ, hR, ha.mono τ _ _ (fun rs h vs H1 s1 irs => ⟨s1, ?_⟩) h⟩) fun us s1 ⟨vs, H1, I1, rv, sm, hh⟩ => ?_) he hpl
    · rcases h with ⟨x, e1, q⟩ | ⟨r, ds, e1, e2, q⟩
      · subst e1
        obtain ⟨v, rfl, ir⟩ := allR1 irs
        cases (show v = .str x from ir)
        exact .inl ⟨x, rfl, q⟩
      · subst e1
        obtain ⟨v, rfl, ir⟩ := allR1 irs
        obtain ⟨l, xs, rfl, sq, al⟩ := lsAny_of e2 ir
        exact .inr ⟨l, xs, ds, rfl, sq, al, q⟩
    · have big : ∀ b ∈ [s1.heap.objs.size + 1, s1.heap.objs.size], FpOk X pins H1 b := fun b hb => by
        have hb : s1.heap.objs.size ≤ b := by
          rcases List.mem_cons.mp hb with rfl | hb
          · exact Nat.le_succ _
          · have e : b = s1.heap.objs.size := by simpa using hb
            rw [e]; exact Nat.le_refl _
        exact I1.fpOk hb (I1.hok.fresh hb)
      rcases hh with ⟨x, rfl, q⟩ | ⟨l, xs, ds, rfl, sq, al, q⟩
      · obtain ⟨u, rfl, ru⟩ := vals1 rv
        obtain ⟨t, rfl⟩ := ru
        refine call_enumerate_str fun h' he hi hz k => ?_
        refine wpAny_pyIter_enum he ⟨s1.heap.objs.size + 1, [s1.heap.objs.size + 1, s1.heap.objs.size], _, _, H1, rfl, I1.kept (t' := s1.toks) k, turn_enumS (x := x) (t := t) (Nat.succ_ne_self _), ⟨⟨_, he⟩, hi⟩, big, q _ _ sm yls_enumS⟩
      · obtain ⟨u, rfl, ru⟩ := vals1 rv
        cases (show u = Value.ref l from ru)
        obtain ⟨its, rv', pl, hz'⟩ := I1.list sq
        obtain ⟨o, n, ho, _⟩ := id pl
        have hl : l < s1.heap.objs.size := Heap.lt_size ho
        refine call_enumerate_list pl.isList fun h' he hi hz k => ?_
        refine wpAny_pyIter_enum he ⟨s1.heap.objs.size + 1, [s1.heap.objs.size + 1, s1.heap.objs.size], _, _, H1, rfl, I1.kept (t' := s1.toks) k, turn_enumL (l := l) (Nat.succ_ne_self _) (Nat.ne_of_lt (Nat.lt_succ_of_lt hl)) (Nat.ne_of_lt hl), ⟨⟨_, he⟩, hi⟩, big, q _ _ sm (yls_enumL sq al)⟩
end
end TK
end
section
set_option maxRecDepth 100000
set_option maxHeartbeats 1000000
namespace TK
open PySem PySem.Spec PyProof.Rows L2
section
variable {X : Cx} {H0 : Hp} {a b c e o tg : Expr} {pos apos cpos : Pos} {wa wb we : WE} {wr : WA}
theorem Rep.mutate {K : PySem.W.Frag} {H : Hp} {τ : DSt} {σ : St} {i : Nat} {ds ds' : List D} {a : Addr} {xs xs' : List V} (hR : Rep K H0 τ σ H) (e1 : τ[i]? = some (some (.own ds))) (hv : σ[i]? = some (some (.ref a))) (h0 : H0 a = none) (sq : H a = some (.lst xs)) (al : AllS K H ds' xs') :
    Rep K H0 (τ.set i (some (.own ds'))) σ (upd H a (.lst xs')) := by
  have kp : Kp H (upd H a (.lst xs')) := Kp.upd sq _
  have hl : i < τ.length := by
    rcases Nat.lt_or_ge i τ.length with h | h
    · exact h
    · rw [List.getElem?_eq_none_iff.mpr h] at e1; cases e1
  have old : ∀ (j : Nat) (s : Sl), (τ.set i (some (.own ds')))[j]? = some (some s) → j ≠ i → τ[j]? = some (some s) := fun j s e hj => by rw [List.getElem?_set_ne (fun z => hj z.symm)] at e; exact e
  have mutAt : ∀ (j : Nat) (s : Sl), (τ.set i (some (.own ds')))[j]? = some (some s) → s.mut = true → ∃ t, τ[j]? = some (some t) ∧ t.mut = true := fun j s e m => by
    by_cases hj : j = i
    · subst hj; exact ⟨_, e1, rfl⟩
    · exact ⟨s, old j s e hj, m⟩
  refine ⟨by rw [List.length_set]; exact hR.len, fun b ob hb => ?_, fun j s e => ?_, fun j k s t v hne e2 e3 m1 m2 q1 q2 => ?_⟩
  · rw [upd_ne (ne_of_none hb h0)]; exact hR.same b ob hb
  · by_cases hj : j = i
    · subst hj
      rw [get_set_eq hl] at e; cases e
      exact ⟨_, hv, a, xs', rfl, h0, upd_same, al.mono kp _ _⟩
    · have e := old j s e hj
      obtain ⟨v, q, r⟩ := hR.here j s e
      refine ⟨v, q, ?_⟩
      have ap : s.mut = true → v ≠ .ref a := fun m z => by
        subst z
        exact hR.apart i j _ s (.ref a) (fun z => hj z.symm) e1 e rfl m hv q
      cases s with
      | dat d => exact IsS.mono kp _ _ r
      | own es => obtain ⟨b, ys, e, n, q, t⟩ := r; exact ⟨b, ys, e, n, by rw [upd_ne (fun z => ap rfl (by rw [e, z]))]; exact q, t.mono kp _ _⟩
      | bor es => obtain ⟨b, ys, e, q, t⟩ := r; exact ⟨b, ys, e, q, t.mono kp _ _⟩
      | dk es => obtain ⟨b, ys, e, n, q, t⟩ := r; exact ⟨b, ys, e, n, by rw [upd_ne (fun z => ap rfl (by rw [e, z]))]; exact q, t.mono kp _ _⟩
      | dt es => obtain ⟨b, ys, e, n, q, t⟩ := r; exact ⟨b, ys, e, n, by rw [upd_ne (fun z => ap rfl (by rw [e, z]))]; exact q, t.mono kp _ _⟩
      | ob _ => exact r
      | ins _ _ _ => obtain ⟨e, n, dx, ys, q, t⟩ := r; exact ⟨e, n, dx, ys, by rw [upd_ne (fun z => ap rfl (by rw [e, z]))]; exact q, t.mono kp _ _⟩
  · obtain ⟨s', e2', m1'⟩ := mutAt j s e2 m1
    obtain ⟨t', e3', m2'⟩ := mutAt k t e3 m2
    exact hR.apart j k s' t' v hne e2' e3' m1' m2' q1 q2
theorem Rep.ownAt {K : PySem.W.Frag} {H : Hp} {τ : DSt} {σ : St} {i : Nat} {ds : List D} (hR : Rep K H0 τ σ H) (e1 : τ[i]? = some (some (.own ds))) : ∃ a xs, σ[i]? = some (some (.ref a)) ∧ H0 a = none ∧ H a = some (.lst xs) ∧ AllS K H ds xs := by
  obtain ⟨v, hv, a, xs, rfl, h0, sq, al⟩ := hR.here i _ e1
  exact ⟨a, xs, hv, h0, sq, al⟩
noncomputable def wAppend (i : Nat) (we : WE) : WS := fun E τ => ∃ ds, τ[i]? = some (some (.own ds)) ∧ we τ fun r => ∃ d, r = .st d ∧ ds.length < sizeLine ∧ E.nx (τ.set i (some (.own (ds ++ [d]))))
theorem DS.append {i : Nat} (ho : PE X o (tVar i)) (he : DE X H0 e we) (hbase : attributeBase o "append" X.env (eval o X.env) = eval o X.env := by rfl)
    (hfew : ((backTo cpos (starEach [e] X.env)).all (fun x => !x.1) && (backToKw cpos (keywordEach [] X.env)).all (fun x => x.1.isSome) && decide ([e].length + ([] : List Keyword).length + (if ([] : List Keyword).isEmpty then 0 else 1) < 30)) = true := by rfl)
    (hline : (apos.endLine == cpos.line) = true := by rfl) (hs : starEach [e] X.env = (false, eval e X.env) :: starEach [] X.env := by rfl) (hplain : (backTo cpos (starEach [] X.env)).any (·.1) = false := by rfl)
    (hsw : swapsWith (.Call (.Attribute o "append" apos) [e] [] cpos) none pos.line X.env = pure false := by rfl) : DS X H0 (.Expr (.Call (.Attribute o "append" apos) [e] [] cpos) pos) (wAppend i we) where
  mono := fun τ E F le ⟨ds, e1, h⟩ => ⟨ds, e1, he.mono τ _ _ (fun r ⟨d, e2, h1, h2⟩ => ⟨d, e2, h1, le.nx _ h2⟩) h⟩
  ps := psW (ps_expr (pe_bm PySem.F.plainAttrs_list PySem.F.slot_list_append PySem.F.type_list_append mt_append ho (pa_cons he.pe pa_nil hs) hbase hfew hline hs hplain) hsw) fun D σ H ⟨τ, hR, ds, e1, h⟩ => by
    obtain ⟨a, xs, hv, h0, sq, al⟩ := hR.ownAt e1
    refine ⟨_, hv, .inl ⟨rfl, _, SqL.of sq⟩, τ, hR, he.mono τ _ _ (fun r ⟨d, e2, h1, h2⟩ v H1 s1 ir => ?_) h⟩
    subst e2
    have hR1 := hR.mono s1
    refine ⟨a, xs, v, rfl, rfl, s1 _ _ sq, by rw [← al.length]; exact h1, h2 σ _ ((Kp.of s1).trans (Kp.upd (s1 _ _ sq) _)) ?_⟩
    exact hR1.mutate e1 hv h0 (s1 _ _ sq) ((al.mono (Kp.of s1) _ _).append (AllS.cons ir AllS.nil))
noncomputable def wExtend (i : Nat) (we : WE) : WS := fun E τ => ∃ ds, τ[i]? = some (some (.own ds)) ∧ we τ fun r => ∃ es, lsM r = some es ∧ ds.length + es.length ≤ sizeLine ∧ E.nx (τ.set i (some (.own (ds ++ es))))
theorem DS.extend {i : Nat} (ho : PE X o (tVar i)) (he : DE X H0 e we) (hbase : attributeBase o "extend" X.env (eval o X.env) = eval o X.env := by rfl)
    (hfew : ((backTo cpos (starEach [e] X.env)).all (fun x => !x.1) && (backToKw cpos (keywordEach [] X.env)).all (fun x => x.1.isSome) && decide ([e].length + ([] : List Keyword).length + (if ([] : List Keyword).isEmpty then 0 else 1) < 30)) = true := by rfl)
    (hline : (apos.endLine == cpos.line) = true := by rfl) (hs : starEach [e] X.env = (false, eval e X.env) :: starEach [] X.env := by rfl) (hplain : (backTo cpos (starEach [] X.env)).any (·.1) = false := by rfl)
    (hsw : swapsWith (.Call (.Attribute o "extend" apos) [e] [] cpos) none pos.line X.env = pure false := by rfl) : DS X H0 (.Expr (.Call (.Attribute o "extend" apos) [e] [] cpos) pos) (wExtend i we) where
  mono := fun τ E F le ⟨ds, e1, h⟩ => ⟨ds, e1, he.mono τ _ _ (fun r ⟨d, e2, h1, h2⟩ => ⟨d, e2, h1, le.nx _ h2⟩) h⟩
  ps := psW (ps_expr (pe_bm PySem.F.plainAttrs_list PySem.F.slot_list_extend PySem.F.type_list_extend mt_extend ho (pa_cons he.pe pa_nil hs) hbase hfew hline hs hplain) hsw) fun D σ H ⟨τ, hR, ds, e1, h⟩ => by
    obtain ⟨a, xs, hv, h0, sq, al⟩ := hR.ownAt e1
    refine ⟨_, hv, .inl ⟨rfl, _, SqL.of sq⟩, τ, hR, he.mono τ _ _ (fun r ⟨es, e2, h1, h2⟩ v H1 s1 ir => ?_) h⟩
    obtain ⟨b, ys, rfl, sqb, alb⟩ := lsM_of e2 ir
    have hR1 := hR.mono s1
    refine ⟨a, b, xs, ys, rfl, rfl, s1 _ _ sq, sqb, by rw [← al.length, ← alb.length]; exact h1, h2 σ _ ((Kp.of s1).trans (Kp.upd (s1 _ _ sq) _)) ?_⟩
    exact hR1.mutate e1 hv h0 (s1 _ _ sq) ((al.mono (Kp.of s1) _ _).append alb)
theorem DS.pop {i : Nat} {g : WG} (ho : PE X o (tVar i)) (hg : DG X H0 tg g) (hbase : attributeBase o "pop" X.env (eval o X.env) = eval o X.env := by rfl) (hline : (apos.endLine == cpos.line) = true := by rfl)
    (hs : swapsWithSole [tg] (.Call (.Attribute o "pop" apos) [] [] cpos) pos.line X.env = pure false := by rfl) (hw : swappedStores [tg] (.Call (.Attribute o "pop" apos) [] [] cpos) X.env = pure none := by rfl)
    (h1 : (assignEach [tg] X.env).map (·.2) = [assign tg X.env] := by rfl) :
    DS X H0 (.Assign [tg] (.Call (.Attribute o "pop" apos) [] [] cpos) pos) (fun E τ => ∃ ds d, τ[i]? = some (some (.own (ds ++ [d]))) ∧ g d (τ.set i (some (.own ds))) E.nx) where
  mono := fun τ E F le ⟨ds, d, e1, h⟩ => ⟨ds, d, e1, hg.mono _ _ _ _ le.nx h⟩
  ps := psW (ps_asg (pe_bm0 PySem.F.plainAttrs_list PySem.F.slot_list_pop PySem.F.type_list_pop mt_pop ho hbase hline) hg.pg hs hw h1) fun D σ H ⟨τ, hR, ds, d, e1, h⟩ => by
    obtain ⟨a, xs, hv, h0, sq, al⟩ := hR.ownAt e1
    have hl := al.length
    rw [List.length_append, List.length_singleton] at hl
    obtain ⟨v, hx, iv⟩ := al.get (i := ds.length) (d := d) (by simp)
    refine ⟨_, hv, .inl ⟨rfl, _, SqL.of sq⟩, a, xs, v, rfl, rfl, sq, by rw [show xs.length - 1 = ds.length by omega]; exact hx, ?_⟩
    have kp : Kp H (upd H a (.lst xs.dropLast)) := Kp.upd sq _
    have al' : AllS X.K H ds xs.dropLast := by
      have := al.take ds.length
      rw [List.take_left] at this
      rw [List.dropLast_eq_take, show xs.length - 1 = ds.length by omega]
      exact this
    exact ⟨_, d, hR.mutate e1 hv h0 sq al', IsS.mono kp _ _ iv, hg.mono _ _ _ _ (fun τ' h σ' H' s' hR' => h σ' H' (kp.trans (Kp.of s')) hR') h⟩
noncomputable def strsOf : List D → Option (List Str)
  | [] => some []
  | .str x :: r => (strsOf r).map (x :: ·)
  | _ :: _ => none
theorem strsOf_are {K : PySem.W.Frag} {H : Hp} : ∀ {ds : List D} {ys : List Str} {xs : List V} {us : List Value}, strsOf ds = some ys → AllS K H ds xs → Vals xs us → StrsAre us ys
  | [], ys, xs, us, h, al, rv => by cases h; unfold AllS at al; subst al; cases rv; exact .nil
  | .str x :: r, ys, xs, us, h, al, rv => by
    unfold AllS at al
    obtain ⟨v, t, rfl, iv, al⟩ := al
    unfold IsS at iv
    subst iv
    cases rv with
    | cons r1 r2 =>
      obtain ⟨tk, rfl⟩ := r1
      unfold strsOf at h
      cases q : strsOf r with
      | none => rw [q] at h; cases h
      | some zs => rw [q] at h; cases h; exact .cons _ _ (strsOf_are q al r2)
  | .non :: _, _, _, _, h, _, _ => by cases h
  | .bl _ :: _, _, _, _, h, _, _ => by cases h
  | .int _ :: _, _, _, _, h, _, _ => by cases h
  | .tup _ :: _, _, _, _, h, _, _ => by cases h
  | .lst _ :: _, _, _, _, h, _, _ => by cases h
noncomputable def wJoin (wo we : WE) : WE := fun τ Q => wo τ fun r1 => ∃ x, r1 = .st (.str x) ∧ we τ fun r => ∃ ds ys, lsAny r = some ds ∧ strsOf ds = some ys ∧ (ys.map (·.length)).sum + ys.length * x.length ≤ 16777216 ∧ Q (.st (.str (Txt.join x ys)))
theorem mt_join : MtR X "str.join" (fun x vs H Q => ∃ z l xs ds ys, x = .str z ∧ vs = [.ref l] ∧ SqL X.K H l xs ∧ AllS X.K H ds xs ∧ strsOf ds = some ys ∧ (ys.map (·.length)).sum + ys.length * z.length ≤ 16777216 ∧ Q (.str (Txt.join z ys)) H) := by
  intro pins s σ H x vs v us Q I rx rv ⟨z, l, xs, ds, ys, e1, e2, sq, al, hs, hz, q⟩
  subst e1 e2
  obtain ⟨t, rfl⟩ := rx
  obtain ⟨u, rfl, ru⟩ := vals1 rv
  cases (show u = Value.ref l from ru)
  obtain ⟨its, rv', pl, _⟩ := I.list sq
  exact join_list pl.isList (by simpa using strsOf_are hs al rv') hz fun t' k => ⟨.str _, H, I.tok k, ⟨t', rfl⟩, q⟩
theorem DE.join {wo : WE} (ho : DE X H0 o wo) (he : DE X H0 e we) (hbase : attributeBase o "join" X.env (eval o X.env) = eval o X.env := by rfl)
    (hfew : ((backTo cpos (starEach [e] X.env)).all (fun x => !x.1) && (backToKw cpos (keywordEach [] X.env)).all (fun x => x.1.isSome) && decide ([e].length + ([] : List Keyword).length + (if ([] : List Keyword).isEmpty then 0 else 1) < 30)) = true := by rfl)
    (hline : (apos.endLine == cpos.line) = true := by rfl) (hs : starEach [e] X.env = (false, eval e X.env) :: starEach [] X.env := by rfl) (hplain : (backTo cpos (starEach [] X.env)).any (·.1) = false := by rfl) :
    DE X H0 (.Call (.Attribute o "join" apos) [e] [] cpos) (wJoin wo we) where
  mono := fun τ P Q f h => ho.mono τ _ _ (fun r ⟨x, e1, h⟩ => ⟨x, e1, he.mono τ _ _ (fun r ⟨ds, ys, a1, a2, a3, a4⟩ => ⟨ds, ys, a1, a2, a3, f _ a4⟩) h⟩) h
  pe := peW (pe_bm PySem.F.plainAttrs_str PySem.F.slot_str_join PySem.F.type_str_join mt_join ho.pe (pa_cons he.pe pa_nil hs) hbase hfew hline hs hplain) fun σ H Q ⟨τ, hR, h⟩ => ⟨τ, hR, ho.mono τ _ _ (fun r ⟨x, e1, h⟩ v H1 s1 ir => by
    subst e1
    cases (show v = .str x from ir)
    refine ⟨rfl, τ, hR.mono s1, he.mono τ _ _ (fun r ⟨ds, ys, a1, a2, a3, a4⟩ u H2 s2 iu => ?_) h⟩
    obtain ⟨l, xs, rfl, sq, al⟩ := lsAny_of a1 iu
    exact ⟨x, l, xs, ds, ys, rfl, rfl, sq, al, a2, a3, a4 _ _ (s1.trans s2) isr_str⟩) h⟩
end
end TK
end
section
set_option maxRecDepth 100000
set_option maxHeartbeats 1000000
namespace HT
open PySem PyProof.Rows
section
variable {prog : Program} {w : World} {A : Around} {E : Value → Shared → Prop} {s : Shared}
theorem getItem_tuple_whole {t sl : Addr} {items : Array Value} {vl vu : Value} {lo hi : Option Int} {Q : Value → Shared → Prop} (ht : IsTup s.heap t items) (hs : s.heap.IsSliceOf sl vl vu .none) (pl : IsPart vl lo) (pu : IsPart vu hi)
    (hw : sIx items.size 0 lo = 0 ∧ sIx items.size items.size hi = items.size) (h : Q (.ref t) s) : wpAny (model prog w) A (getItem (.ref t) (.ref sl)) Q E s := by
  obtain ⟨os, hos, hcs, hds⟩ := id hs
  have hTs : s.TypeIs (.ref sl) "slice" := ⟨os, hos, hcs⟩
  unfold getItem
  try with_reducible refine wpAny_holding ?_
  first | refine wpAny_bind (wpAny_pure ?_) | skip
  refine wpAny_bind (wpAny_sequenceKey ht.typeIs (by decide) ?_)
  refine wpAny_bind (wpAny_callSpecial?_slot (name := Str.ofString "__getitem__") ht.typeIs PyProof.Rows.slot_tuple_getitem
    (wpAny_call_entry PyProof.Rows.slot_tuple_getitem ht.typeIs entry_tuple_getitem ?_ (args_tuple_getitem _ _)))
  show wpAny _ _ (Builtin.Tuple.tupleItemsOf (.ref t) >>= _) _ _ s
  refine wpAny_bind (tupleItemsOf_ ht ?_)
  refine wpAny_bind (wpAny_typeOf hTs ?_)
  rw [if_pos (by decide)]
  refine wpAny_bind (sliceApplied_gen hs pl pu ?_)
  have hyes : ((((sIx items.size 0 lo : Nat) : Int) == 0 && (1 : Int) == 1 && (sIx items.size items.size hi - sIx items.size 0 lo) == items.size) = true) := by
    rw [hw.1, hw.2]; simp
  show wpAny _ _ (if (((sIx items.size 0 lo : Nat) : Int) == 0 && (1 : Int) == 1 && (sIx items.size items.size hi - sIx items.size 0 lo) == items.size) = true then _ else _) _ _ s
  rw [if_pos hyes]
  show wpAny _ _ ((typeOf (.ref t) >>= fun y => pure (y == Value.type "tuple")) >>= _) _ _ s
  refine wpAny_bind (wpAny_bind (wpAny_typeOf ht.typeIs (wpAny_pure ?_)))
  rw [if_pos (by decide)]
  first
    | exact wpAny_bind (wpAny_rule (wpAny_pure ⟨_, rfl, wpAny_pure h⟩))
    | exact wpAny_bind (wpAny_rule (wpAny_bind (wpAny_pure (wpAny_pure ⟨_, rfl, wpAny_pure h⟩))))
end
end HT
namespace TK
open PySem PySem.Spec PyProof.Rows L2
noncomputable def cutL {α : Type} (xs : List α) (lo hi : Option Int) : List α := (xs.drop (HT.sIx xs.length 0 lo)).take (HT.sIx xs.length xs.length hi - HT.sIx xs.length 0 lo)
theorem cut_all {K : PySem.W.Frag} {H : Hp} {ds : List D} {xs : List V} (al : AllS K H ds xs) (lo hi : Option Int) : AllS K H (cutL ds lo hi) (cutV xs lo hi) := by
  unfold cutL cutV
  rw [← al.length]
  exact (al.drop _).take _
section
variable {X : Cx} {H0 : Hp} {a b c e o tg : Expr} {pos p2 : Pos} {wa wb we : WE} {lo hi : Option Expr}
theorem sl_tupW : L2.SlR X (fun x lo hi H Q => ∃ a xs, x = .ref a ∧ H a = some (.tup xs) ∧ ((¬ (HT.sIx xs.length 0 lo = 0 ∧ HT.sIx xs.length xs.length hi = xs.length)) → ∀ p, H p = none → Q (.ref p) (upd H p (.tup (cutV xs lo hi)))) ∧ ((HT.sIx xs.length 0 lo = 0 ∧ HT.sIx xs.length xs.length hi = xs.length) → Q (.ref a) H)) := by
  intro pins s σ H x v vl vu lo hi sl Q I rx hs pl pu h
  obtain ⟨a, xs, rfl, hx, q1, q2⟩ := h
  by_cases hw : HT.sIx xs.length 0 lo = 0 ∧ HT.sIx xs.length xs.length hi = xs.length
  · cases rx
    obtain ⟨its, r, ht, hz⟩ := I.tuple (SqT.of hx)
    have hlen : its.toArray.size = xs.length := by rw [List.size_toArray]; exact r.length.symm
    exact ⟨"tuple", _, PyProof.Rows.slot_tuple_getitem.lookup, ht.typeIs, HT.getItem_tuple_whole ht hs pl pu (by rw [hlen]; exact hw) ⟨.ref a, H, I, rfl, q2 hw⟩⟩
  · exact sl_tup pins s σ H _ v vl vu lo hi sl Q I rx hs pl pu ⟨a, xs, rfl, SqT.of hx, hw, q1 hw⟩
theorem cutV_whole {xs : List V} {lo hi : Option Int} (h : HT.sIx xs.length 0 lo = 0 ∧ HT.sIx xs.length xs.length hi = xs.length) : cutV xs lo hi = xs := by
  unfold cutV; rw [h.1, h.2]; simp
noncomputable abbrev WO := DSt → (Option Int → Prop) → Prop
noncomputable def liftO (K : PySem.W.Frag) (H0 : Hp) (w : WO) : TO := fun σ H Q => ∃ τ, Rep K H0 τ σ H ∧ w τ fun o => ∀ H', Same H H' → Q o H'
structure DO (X : Cx) (H0 : Hp) (e : Option Expr) (w : WO) : Prop where
  mono : ∀ (τ : DSt) (P Q : Option Int → Prop), (∀ r, P r → Q r) → w τ P → w τ Q
  po : PO X e (liftO X.K H0 w)
theorem DO.none : DO X H0 none (fun _ Q => Q none) := ⟨fun _ _ _ f h => f _ h, fun pins s σ H Q I ⟨τ, hR, h⟩ => po_none pins s σ H Q I (h H (Same.refl H))⟩
noncomputable def intR : R → (Int → Prop) → Prop
  | .st (.int i), Q => Q i
  | _, _ => False
theorem intR_of {r : R} {P : Int → Prop} (h : intR r P) : ∃ i, r = .st (.int i) ∧ P i := by
  unfold intR at h
  split at h
  · exact ⟨_, rfl, h⟩
  · exact h.elim
theorem DO.some (he : DE X H0 e we) : DO X H0 (some e) (fun τ Q => we τ fun r => intR r fun i => Q (some i)) where
  mono := fun τ P Q f h => he.mono τ _ _ (fun r h => by obtain ⟨i, rfl, q⟩ := intR_of h; exact f _ q) h
  po := fun pins s σ H Q I ⟨τ, hR, h⟩ => po_some he.pe pins s σ H Q I ⟨τ, hR, he.mono τ _ _ (fun r h v H1 s1 ir => by
    obtain ⟨i, rfl, q⟩ := intR_of h
    exact ⟨i, ir, q H1 s1⟩) h⟩
noncomputable def slD (x : R) (lo hi : Option Int) (Q : R → Prop) : Prop := match x with
  | .st (.tup ds) => Q (.st (.tup (cutL ds lo hi)))
  | .st (.lst ds) => Q (.nw (cutL ds lo hi))
  | .nw ds => Q (.nw (cutL ds lo hi))
  | .bw ds => Q (.nw (cutL ds lo hi))
  | .st (.str z) => z.length ≤ sizeLine ∧ Q (.st (.str (Txt.slice z lo hi)))
  | _ => False
theorem slD_mono {x : R} {lo hi : Option Int} {P Q : R → Prop} (f : ∀ r, P r → Q r) (h : slD x lo hi P) : slD x lo hi Q := by
  unfold slD at h ⊢
  split at h <;> first | exact f _ h | exact ⟨h.1, f _ h.2⟩ | exact h
theorem sl_str : L2.SlR X (fun x lo hi H Q => ∃ z, x = .str z ∧ z.length ≤ sizeLine ∧ Q (.str (Txt.slice z lo hi)) H) := by
  intro pins s σ H x v vl vu lo hi sl Q I rx hs pl pu h
  obtain ⟨z, rfl, hz, q⟩ := h
  obtain ⟨t, rfl⟩ := rx
  refine ⟨"str", _, PySem.F.slot_str_getitem.lookup, typeIs_str _ _ _, ?_⟩
  obtain ⟨os, hos, hcs, hds⟩ := id hs
  have fin : ∀ (t' : Tok) (k : Nat), EP X pins σ Q (.str (Txt.slice z lo hi) t') { s with toks := k } := fun t' k => ⟨.str _, H, I.tok k, ⟨t', rfl⟩, q⟩
  cases pl with
  | none =>
    cases pu with
    | none => exact wpAny_getItem_str_slice (l := none) (u := none) (st := none) ⟨_, hos, hcs, hds⟩ rfl (post_val_or_str ⟨Nat.le_trans (Txt.slice_le z _ _) hz, fin⟩)
    | int j uj => exact wpAny_getItem_str_slice (l := none) (u := some (j, uj)) (st := none) ⟨_, hos, hcs, hds⟩ rfl (post_val_or_str ⟨Nat.le_trans (Txt.slice_le z _ _) hz, fin⟩)
  | int i ui =>
    cases pu with
    | none => exact wpAny_getItem_str_slice (l := some (i, ui)) (u := none) (st := none) ⟨_, hos, hcs, hds⟩ rfl (post_val_or_str ⟨Nat.le_trans (Txt.slice_le z _ _) hz, fin⟩)
    | int j uj => exact wpAny_getItem_str_slice (l := some (i, ui)) (u := some (j, uj)) (st := none) ⟨_, hos, hcs, hds⟩ rfl (post_val_or_str ⟨Nat.le_trans (Txt.slice_le z _ _) hz, fin⟩)
variable {wl wh : WO}
theorem DE.slice (he : DE X H0 e we) (hl : DO X H0 lo wl) (hh : DO X H0 hi wh) : DE X H0 (.Subscript e (.Slice lo hi none p2) pos) (fun τ Q => we τ fun x => wl τ fun l => wh τ fun u => slD x l u Q) where
  mono := fun τ P Q f h => he.mono τ _ _ (fun x h => hl.mono τ _ _ (fun l h => hh.mono τ _ _ (fun u h => slD_mono f h) h) h) h
  pe := by
    refine peW (pe_slice (sl_tupW.or (sl_list.or sl_str)) he.pe hl.po hh.po) fun σ H Q ⟨τ, hR, h⟩ => ⟨τ, hR, he.mono τ _ _ (fun x h v H1 s1 ir => ⟨τ, hR.mono s1, hl.mono τ _ _ (fun l h H2 s2 => ⟨τ, hR.mono (s1.trans s2), hh.mono τ _ _ (fun u h H3 s3 => ?_) h⟩) h⟩) h⟩
    have ir := ir.mono (s2.trans s3)
    have s13 := s1.trans (s2.trans s3)
    have lists : ∀ ds, lsAny x = some ds → (∀ r, r = R.nw (cutL ds l u) → ∀ v H', Same H H' → IsR X.K H H' r v → Q v H') → rSlL X.K v l u H3 Q := fun ds e1 q => by
      obtain ⟨p, xs, rfl, sq, al⟩ := lsAny_of e1 ir
      exact ⟨p, xs, rfl, sq, fun p' hp => q _ rfl _ _ (s13.trans (same_new hp _)) ⟨p', _, rfl, s13.free hp, upd_same, (cut_all al l u).mono (Kp.of (same_new hp _)) _ _⟩⟩
    unfold slD at h
    split at h
    · have ir : IsS X.K H3 (.tup _) v := ir
      unfold IsS at ir
      obtain ⟨p, xs, rfl, sq, al⟩ := ir
      refine .inl ⟨p, xs, rfl, sq, fun _ p' hp => h _ _ (s13.trans (same_new hp _)) (IsS.s_tup (K := X.K) upd_same ((cut_all al l u).mono (Kp.of (same_new hp _)) _ _)), fun hw => h _ _ s13 (IsS.s_tup (K := X.K) (H := H3) sq ?_)⟩
      have := cut_all al l u
      rw [cutV_whole hw] at this
      exact this
    · exact .inr (.inl (lists _ rfl fun r e1 => by subst e1; exact h))
    · exact .inr (.inl (lists _ rfl fun r e1 => by subst e1; exact h))
    · exact .inr (.inl (lists _ rfl fun r e1 => by subst e1; exact h))
    · cases (show v = .str _ from ir)
      exact .inr (.inr ⟨_, rfl, h.1, h.2 _ _ s13 isr_str⟩)
    · exact h.elim
end
end TK
end
section
set_option maxRecDepth 100000
set_option maxHeartbeats 1000000
namespace TK
open PySem PySem.Spec PyProof.Rows L2
noncomputable def ments (w : World) : List DictEntry → List (Str × Int) → Prop
  | [], [] => True
  | e :: es, kv :: kvs => (∃ t, e.key = .str kv.1 t) ∧ e.hash = PyData.keyHash w.params kv.1 ∧ (∃ t, e.val = .int kv.2 t) ∧ ments w es kvs
  | _, _ => False
structure MDict (K : PySem.W.Frag) (w : World) (d : Addr) (kvs : List (Str × Int)) : Prop where
  here : ∃ es ep, K.lookup d = some { cls := .type "dict", data := .dict es ep } ∧ ments w es.toList kvs
  low : (d == sysModules) = false
  nodup : (kvs.map (·.1)).Nodup
theorem ments_of {P : Program} {w : World} : ∀ {es : List DictEntry} {kvs : List (Str × Int)}, ments w es kvs → ∃ vs : List (Key × Value), KV (kvs.map fun kv => ((Sum.inr kv.1 : Key), V.int kv.2)) vs ∧ Pairs (mixKind P w) es vs ∧ (∀ e ∈ es, ∃ k, (mixKind P w).is k e.key = true ∧ e.hash = (mixKind P w).hash k)
  | [], [], _ => ⟨[], .nil, .nil, fun e h => by cases h⟩
  | e :: es, kv :: kvs, h => by
    obtain ⟨⟨t, hk⟩, hh, ⟨t', hv⟩, h⟩ := h
    obtain ⟨vs, h1, h2, h3⟩ := ments_of (P := P) h
    have hi : (mixKind P w).is (.inr kv.1) e.key = true := by rw [hk]; exact mixKind_str P w kv.1 t
    refine ⟨(.inr kv.1, .int kv.2 t') :: vs, .cons ⟨rfl, ⟨t', rfl⟩⟩ h1, .cons hi hv h2, fun e' he' => ?_⟩
    rcases List.mem_cons.mp he' with rfl | he'
    · exact ⟨.inr kv.1, hi, hh⟩
    · exact h3 e' he'
  | [], _ :: _, h => h.elim
  | _ :: _, [], h => h.elim
theorem nodup_inr : ∀ {l : List (Str × Int)}, (l.map (·.1)).Nodup → ((l.map fun kv => ((Sum.inr kv.1 : Key), V.int kv.2)).map (·.1)).Nodup
  | [], _ => by simp
  | kv :: r, h => by
    obtain ⟨h1, h2⟩ := List.nodup_cons.mp (show (kv.1 :: r.map (·.1)).Nodup from h)
    refine List.nodup_cons.mpr ⟨fun m => h1 ?_, nodup_inr h2⟩
    obtain ⟨p, hp, e⟩ := List.mem_map.mp m
    obtain ⟨q, hq, rfl⟩ := List.mem_map.mp hp
    have e : (Sum.inr q.1 : Key) = Sum.inr kv.1 := e
    exact List.mem_map.mpr ⟨q, hq, Sum.inr.inj e⟩
noncomputable def lkp (kvs : List (Str × Int)) (x : Str) : Option Int := (kvs.find? fun kv => decide (kv.1 = x)).map (·.2)
theorem valV_lkp (x : Str) : ∀ kvs : List (Str × Int), valV (kvs.map fun kv => ((Sum.inr kv.1 : Key), V.int kv.2)) (.inr x) = (lkp kvs x).map V.int
  | [] => rfl
  | kv :: r => by
    have ih := valV_lkp x r
    by_cases e : kv.1 = x
    · rw [List.map_cons, valV_pos (by rw [e]), lkp, List.find?_cons, decide_eq_true e]; rfl
    · have ne : ¬ (Sum.inr kv.1 : Key) = Sum.inr x := fun z => e (Sum.inr.inj z)
      rw [List.map_cons, valV_neg ne, ih, lkp, lkp, List.find?_cons, decide_eq_false e]
theorem MDict.dict {X : Cx} {pins : List (Addr × Obj)} {σ : St} {H : Hp} {s : Shared} {d : Addr} {kvs : List (Str × Int)} (m : MDict X.K X.w d kvs) (I : Inv X pins σ H s) :
    ∃ vs, KV (kvs.map fun kv => ((Sum.inr kv.1 : Key), V.int kv.2)) vs ∧ s.heap.DictOf (mixKind X.prog X.w) d vs := by
  obtain ⟨es, ep, hk, he⟩ := m.here
  obtain ⟨vs, h1, h2, h3⟩ := ments_of (P := X.prog) he
  exact ⟨vs, h1, _, es, ep, I.kIn _ _ hk, ⟨rfl, rfl, rfl⟩, rfl, fun e he => h3 e (by simpa using he), h2, by rw [← h1.keys]; exact nodup_inr m.nodup⟩
section
variable {X : Cx} {H0 : Hp} {a b c e o tg : Expr} {pos pos' p p2 : Pos} {wa wb we : WE} {x : Str} {d : Addr} {kvs : List (Str × Int)}
noncomputable def strR : R → (Str → Prop) → Prop
  | .st (.str x), Q => Q x
  | _, _ => False
theorem strR_of {r : R} {P : Str → Prop} (h : strR r P) : ∃ i, r = .st (.str i) ∧ P i := by
  unfold strR at h
  split at h
  · exact ⟨_, rfl, h⟩
  · exact h.elim
theorem DE.mget (m : MDict X.K X.w d kvs) (hg : Gl X x) (hm : X.mg x = some (.ref d)) (he : DE X H0 e we) (hs : NoSl e) (hd : (x == ("__debug__" : Str)) = false := by decide) :
    DE X H0 (.Subscript (.Name x p) e pos) (fun τ Q => we τ fun r => strR r fun k => ∃ i, lkp kvs k = some i ∧ Q (.st (.int i))) where
  mono := fun τ P Q f h => he.mono τ _ _ (fun r h => by obtain ⟨k, rfl, i, h1, h2⟩ := strR_of h; exact ⟨i, h1, f _ h2⟩) h
  pe := by
    intro pins s σ H Q I ⟨τ, hR, h⟩
    refine subD_of PySem.F.slot_dict_getitem.lookup hs (ld_glob I hg hm (thn (he.pe pins s σ H (fun v H1 => ∃ k i, v = .str k ∧ lkp kvs k = some i ∧ Q (.int i) H1) I ⟨τ, hR, he.mono τ _ _ (fun r h v H1 s1 ir => ?_) h⟩) fun iv s2 ⟨y, H2, I2, ry, k, i, ey, hl, q⟩ => ?_) hd)
    · obtain ⟨k, rfl, i, h1, h2⟩ := strR_of h
      exact ⟨k, i, ir, h1, h2 _ _ s1 isr_int⟩
    · subst ey
      obtain ⟨vs, rel, dd⟩ := m.dict I2
      obtain ⟨w', hw, rw'⟩ := RelO.some_of (v := .int i) (o := valueAt vs (.inr k)) (by
        have := rel.val (.inr k)
        rw [valV_lkp, hl] at this
        exact this)
      exact ⟨dd.typeIs, wpAny_getItem_of (kV_is (k := .inr k) ry) dd.mapOf hw ⟨.int i, H2, I2.tok _, rw', q⟩⟩
noncomputable def wMin (kvs : List (Str × Int)) (we : WE) : WT := fun τ Q => we τ fun r => strR r fun k => Q (lkp kvs k).isSome
theorem DE.gstr {z : Str} (hg : Gl X x) (hm : ∃ t, X.mg x = some (.str z t)) (hd : (x == ("__debug__" : Str)) = false := by decide) : DE X H0 (.Name x pos) (wC (.str z)) := by
  obtain ⟨t, hm⟩ := hm
  exact DE.con (pe_glob (v := .str z) hg hm ⟨t, rfl⟩ hd) fun _ _ => IsS.s_str
theorem DE.gint {z : Int} (hg : Gl X x) (hm : ∃ t, X.mg x = some (.int z t)) (hd : (x == ("__debug__" : Str)) = false := by decide) : DE X H0 (.Name x pos) (wC (.int z)) := by
  obtain ⟨t, hm⟩ := hm
  exact DE.con (pe_glob (v := .int z) hg hm ⟨t, rfl⟩ hd) fun _ _ => IsS.s_int
noncomputable def wAug (i : Nat) (g : R → R → (R → Prop) → Prop) (we : WE) : WS := fun E τ => ∃ s, τ[i]? = some (some s) ∧ we τ fun y => g (rdS s) y fun r => stoR r fun s' => E.nx (τ.set i (some s'))
noncomputable def blkB (sc : Scope) (N0 : List Str) (scope : Scope) (N : List Str) (nt : Nat) (cap : List Nat) : Bool :=
  decide (scope.kind = .function) && scope.names.all (fun y => y.2 != .cell) && scope.names.all (fun y => y.2 != .local || scope.names.lookup y.1 == some .local) &&
  scope.names.all (fun y => y.2 != .free || scope.names.lookup y.1 == some .free) && scope.names.all (fun y => y.2 != .free || sc.names.lookup y.1 == some .cell || sc.names.lookup y.1 == some .free) &&
  decide (N.length = nt + cap.length) && (List.range cap.length).all (fun j => match cap[j]?, N[nt + j]? with | some i, some x => N0[i]? == some x && scope.names.contains (x, NameKind.free) | _, _ => false)
theorem blk_of {sc : Scope} {N0 : List Str} {scope : Scope} {N : List Str} {nt : Nat} {cap : List Nat} (h1 : X.env.scope = sc) (h2 : X.N = N0) (h : blkB sc N0 scope N nt cap = true) : Blk X scope N nt cap := by
  subst h1 h2
  unfold blkB at h
  simp only [Bool.and_eq_true] at h
  obtain ⟨⟨⟨⟨⟨⟨a1, a2⟩, a3⟩, a4⟩, a5⟩, a6⟩, a7⟩ := h
  refine ⟨of_decide_eq_true a1, fun y hy => ?_, fun y hy e => ?_, fun y hy e => ?_, fun y hy e => ?_, of_decide_eq_true a6, fun j i x hj hx => ?_⟩
  · simpa using List.all_eq_true.mp a2 y hy
  · have := List.all_eq_true.mp a3 y hy
    rw [e] at this
    simpa using this
  · have := List.all_eq_true.mp a4 y hy
    rw [e] at this
    simpa using this
  · have := List.all_eq_true.mp a5 y hy
    rw [e] at this
    have this : X.env.scope.names.lookup y.1 = some .cell ∨ X.env.scope.names.lookup y.1 = some .free := by simpa using this
    exact this
  · have hlt : j < cap.length := by
      rcases Nat.lt_or_ge j cap.length with h | h
      · exact h
      · rw [List.getElem?_eq_none_iff.mpr h] at hj; cases hj
    have := List.all_eq_true.mp a7 j (List.mem_range.mpr hlt)
    rw [hj, hx] at this
    simpa using this
theorem hu60 {A : Around} {k : Nat} (hr : Room k A) : A.units + 60 < cLine := by have := hr.units; omega
theorem kit_all (T : String) (h : T ∈ ["bool", "int", "str", "tuple", "list"]) : ∀ K t, t ∈ ["NoneType", "bool", "int", "str", "tuple", "list"] → PySem.W.kitOne K (.type t) (.type T) = some (isiB T t) := by
  intro K t ht
  simp only [List.mem_cons, List.not_mem_nil, or_false] at h ht
  rcases h with rfl | rfl | rfl | rfl | rfl <;> rcases ht with rfl | rfl | rfl | rfl | rfl | rfl <;> rfl
end
end TK
end
section
set_option maxRecDepth 100000
set_option maxHeartbeats 1000000
namespace HT
open PySem PySem.Spec PyProof.Rows
open AutoSeq1 (wpAny_loadPart')
section
variable {prog : Program} {w : World} {A : Around} {E : Value → Shared → Prop} {s : Shared}
end
end HT
namespace TK
open PySem PySem.Spec PyProof.Rows L2
section
variable {X : Cx} {H0 : Hp} {a b c e o tg : Expr} {pos pos' p p2 p3 p4 : Pos} {wa wb we : WE}
noncomputable def wRev (we : WE) : WE := fun τ Q => we τ fun r => ∃ ds, r = .st (.tup ds) ∧ Q (.st (.tup ds.reverse))
noncomputable def wDget (kvs : List (Str × Int)) (we wz : WE) : WE := fun τ Q => we τ fun r => strR r fun k => wz τ fun z => ∃ d, z = .st d ∧ Q (.st (match lkp kvs k with | some i => .int i | none => d))
structure Disp (X : Cx) (keys : List (Option Expr)) (values : List Expr) (pos : Pos) (kvs : List (Str × Int)) (trs : List (TE × TE)) : Prop where
  pps : PPs X pos keys values trs
  rd : ∀ σ H Q, Q (kvs.map fun kv => (V.str kv.1, V.int kv.2)) H → tPairs trs σ H Q
  all : keys.all (·.isSome) = true
  len : keys.length = values.length
end
end TK
end
section
set_option maxRecDepth 100000
namespace TK
open PySem PySem.Spec PyProof.Rows L2
noncomputable def wFz (we : WE) : WE := fun τ Q => we τ fun r => fzR r fun d => Q (.st d)
noncomputable def wB (t : WT) : WE := fun τ Q => t τ fun k => Q (.st (.bl k))
noncomputable def wTru (we : WE) : WT := fun τ Q => we τ fun r => truR r Q
noncomputable def oNone : WO := fun _ Q => Q none
noncomputable def oSome (we : WE) : WO := fun τ Q => we τ fun r => intR r fun i => Q (some i)
noncomputable def wSl (we : WE) (wl wh : WO) : WE := fun τ Q => we τ fun x => wl τ fun l => wh τ fun u => slD x l u Q
noncomputable def wNeg (we : WE) : WE := fun τ Q => we τ fun r => intR r fun i => Q (.st (.int (-i)))
noncomputable def wInv (we : WE) : WE := fun τ Q => we τ fun r => intR r fun i => Q (.st (.int (Builtin.bitNot i)))
noncomputable def wMget (kvs : List (Str × Int)) (we : WE) : WE := fun τ Q => we τ fun r => strR r fun k => ∃ i, lkp kvs k = some i ∧ Q (.st (.int i))
noncomputable def tYes : WT := fun _ Q => Q true
noncomputable def iLst (we : WE) : WI := fun τ Q => we τ fun r => ∃ ds, r = .st (.lst ds) ∧ Q ds τ
noncomputable def iTup (we : WE) : WI := fun τ Q => we τ fun r => ∃ ds, r = .st (.tup ds) ∧ Q ds τ
noncomputable def iRng1 (wr : WA) : WI := fun τ Q => wr τ fun rs => ∃ j : Int, rs = [.st (.int j)] ∧ -(2 ^ 62) ≤ j ∧ j < 2 ^ 62 ∧ Q (rngD 0 j.toNat) τ
noncomputable def iRng2 (wr : WA) : WI := fun τ Q => wr τ fun rs => ∃ i j : Int, rs = [.st (.int i), .st (.int j)] ∧ (-(2 ^ 62) ≤ i ∧ i < 2 ^ 62 ∧ -(2 ^ 62) ≤ j ∧ j < 2 ^ 62) ∧ Q (rngD i (j - i).toNat) τ
noncomputable def jLst (we : WE) : WIE := fun τ Q => we τ fun r => ∃ ds, lsAny r = some ds ∧ Q ds
noncomputable def jTup (we : WE) : WIE := fun τ Q => we τ fun r => ∃ ds, r = .st (.tup ds) ∧ Q ds
noncomputable def jRng1 (wr : WA) : WIE := fun τ Q => wr τ fun rs => ∃ j : Int, rs = [.st (.int j)] ∧ -(2 ^ 62) ≤ j ∧ j < 2 ^ 62 ∧ Q (rngD 0 j.toNat)
noncomputable def jRng2 (wr : WA) : WIE := fun τ Q => wr τ fun rs => ∃ i j : Int, rs = [.st (.int i), .st (.int j)] ∧ (-(2 ^ 62) ≤ i ∧ i < 2 ^ 62 ∧ -(2 ^ 62) ≤ j ∧ j < 2 ^ 62) ∧ Q (rngD i (j - i).toNat)
noncomputable def jStr (we : WE) : WIE := fun τ Q => we τ fun r => ∃ x, r = .st (.str x) ∧ Q (sgnD x)
noncomputable def jEnum (wr : WA) : WIE := fun τ Q => wr τ fun rs => (∃ x, rs = [.st (.str x)] ∧ Q (enmD (sgnD x))) ∨ ∃ r ds, rs = [r] ∧ lsAny r = some ds ∧ Q (enmD ds)
noncomputable def wFor (wi : WI) (g : WG) (wb : WS) : WS := fun E τ => wi τ fun ds τ' => forW g wb E ds τ'
noncomputable def wAsg (we : WE) (g : WG) : WS := fun E τ => we τ fun r => ∃ d, r = .st d ∧ g d τ E.nx
noncomputable def wPop (i : Nat) (g : WG) : WS := fun E τ => ∃ ds d, τ[i]? = some (some (.own (ds ++ [d]))) ∧ g d (τ.set i (some (.own ds))) E.nx
noncomputable def wRetV (i : Nat) : WS := fun E τ => ∃ s, τ[i]? = some (some s) ∧ outS s E.rt
noncomputable def wBrk : WS := fun E τ => E.bk τ
noncomputable def wCnt : WS := fun E τ => E.ct τ
noncomputable def wNev : WS := fun _ _ => False
structure Df (K : PySem.W.Frag) (mg : Str → Option Value) (name : Str) (st : Stmt) (ps : List Str) (f : Addr) (fd : FuncData) : Prop where
  F : Fun K name name st f fd
  b : Binds K fd ps []
  k : PySem.W.keepIn K (.ref f) = true
  m : mg name = some (.ref f)
noncomputable abbrev FnD (P : Program) (w : World) (K : PySem.W.Frag) (mg : Str → Option Value) (base : Heap) (k : Nat) (f : Addr) (fd : FuncData) (ps : List Str) (sp : DSp) : Prop := FnOk P w K mg base CX0 k f fd ps (liftSp K ps.length sp)
noncomputable def Ends1 (r : R) : DEnds := { nx := fun _ => r = .st .non, rt := fun r' => r' = r, bk := fun _ => False, ct := fun _ => False }
section
variable {P : Program} {w : World} {K : PySem.W.Frag} {mg : Str → Option Value} {base : Heap}
theorem Df.ok {x : Str} {st : Stmt} {f : Addr} {fd : FuncData} {N ps : List Str} {k : Nat} {sp : DSp} {ws : WS} (F : Df K mg x st ps f fd) (S : FnScope N ps (defScope st))
    (hbody : ∀ (cdv : Value) (A : Around) (outer : List Env) (s : Shared) (H : Hp) (E : XK), Room k (A.deeper (envOfC x (defScope st) s.heap.objs.size f cdv)) → DSs (cxOf CX0 P w K mg base N x (defScope st) f cdv A outer s H E).nox H (defBody st) ws)
    (hr : ∀ rs r, rs.length = ps.length → sp rs r → ws (Ends1 r) (startD N rs)) : FnD P w K mg base (k + 1) f fd ps sp :=
  Fun.okD F.F S fun cdv A outer s H E hr' => ⟨ws, hbody cdv A outer s H E hr', hr⟩
end
end TK
end
section
set_option maxRecDepth 100000
namespace TK
open PySem PySem.Spec PyProof.Rows L2
section
variable {τ : DSt} {E : DEnds} {Q : R → Prop} {QB : Bool → Prop} {wa wb we : WE} {wr : WA} {t u : WT} {ws wt : WS} {i j : Int} {n : Nat} {x y : Str} {ds es : List D} {d e : D}
@[simp] theorem s_seq : wSeq ws wt E τ = ws { E with nx := wt E } τ := rfl
@[simp] theorem s_next : wNext E τ = E.nx τ := rfl
@[simp] theorem s_ifS : wIfS t ws wt E τ = t τ fun k => if k = true then ws E τ else wt E τ := rfl
@[simp] theorem s_ret : wRet we E τ = we τ fun r => retR r E.rt := rfl
@[simp] theorem s_retV : wRetV n E τ = ∃ s, τ[n]? = some (some s) ∧ outS s E.rt := rfl
@[simp] theorem s_set : wSet n we E τ = we τ fun r => stoR r fun s => E.nx (τ.set n (some s)) := rfl
@[simp] theorem s_aug {g : R → R → (R → Prop) → Prop} : wAug n g we E τ = ∃ s, τ[n]? = some (some s) ∧ we τ fun y => g (rdS s) y fun r => stoR r fun s' => E.nx (τ.set n (some s')) := rfl
@[simp] theorem s_asg {g : WG} : wAsg we g E τ = we τ fun r => ∃ d, r = .st d ∧ g d τ E.nx := rfl
@[simp] theorem s_pop {g : WG} : wPop n g E τ = ∃ ds d, τ[n]? = some (some (.own (ds ++ [d]))) ∧ g d (τ.set n (some (.own ds))) E.nx := rfl
@[simp] theorem s_append : wAppend n we E τ = ∃ ds, τ[n]? = some (some (.own ds)) ∧ we τ fun r => ∃ d, r = .st d ∧ ds.length < sizeLine ∧ E.nx (τ.set n (some (.own (ds ++ [d])))) := rfl
@[simp] theorem s_extend : wExtend n we E τ = ∃ ds, τ[n]? = some (some (.own ds)) ∧ we τ fun r => ∃ es, lsM r = some es ∧ ds.length + es.length ≤ sizeLine ∧ E.nx (τ.set n (some (.own (ds ++ es)))) := rfl
@[simp] theorem s_for {wi : WI} {g : WG} : wFor wi g ws E τ = wi τ fun ds τ' => forW g ws E ds τ' := rfl
@[simp] theorem s_brk : wBrk E τ = E.bk τ := rfl
@[simp] theorem s_cnt : wCnt E τ = E.ct τ := rfl
@[simp] theorem s_nev : wNev E τ = False := rfl
@[simp] theorem s_var : wV n τ Q = ∃ s, τ[n]? = some (some s) ∧ Q (rdS s) := rfl
@[simp] theorem s_con : wC d τ Q = Q (.st d) := rfl
@[simp] theorem s_op {α : Type} {g : R → R → (α → Prop) → Prop} {Q : α → Prop} : wOp g wa wb τ Q = wa τ fun x => wb τ fun y => g x y Q := rfl
@[simp] theorem s_b : wB t τ Q = t τ fun k => Q (.st (.bl k)) := rfl
@[simp] theorem s_tru : wTru we τ QB = we τ fun r => truR r QB := rfl
@[simp] theorem s_and : wAnd t u τ QB = t τ fun k => if k = true then u τ QB else QB false := rfl
@[simp] theorem s_or : wOr t u τ QB = t τ fun k => if k = true then QB true else u τ QB := rfl
@[simp] theorem s_not : wNot t τ QB = t τ fun k => QB (!k) := rfl
@[simp] theorem s_andV : wAndV wa wb τ Q = wa τ fun r => blR r fun k => if k = true then wb τ Q else Q (.st (.bl false)) := rfl
@[simp] theorem s_orV : wOrV wa wb τ Q = wa τ fun r => blR r fun k => if k = true then Q (.st (.bl true)) else wb τ Q := rfl
@[simp] theorem s_notV : wNotV wa τ Q = wa τ fun r => blR r fun k => Q (.st (.bl (!k))) := rfl
@[simp] theorem s_ife : wIf t wa wb τ Q = t τ fun k => if k = true then wa τ Q else wb τ Q := rfl
@[simp] theorem s_nil {Q : List R → Prop} : wNil τ Q = Q [] := rfl
@[simp] theorem s_cons {Q : List R → Prop} : wCons we wr τ Q = we τ fun r => wr τ fun rs => Q (r :: rs) := rfl
@[simp] theorem s_tup : wTup wr τ Q = wr τ fun rs => ∃ ds, stAll rs = some ds ∧ ds.length ≤ sizeLine ∧ Q (.st (.tup ds)) := rfl
@[simp] theorem s_lst : wLst wr τ Q = wr τ fun rs => ∃ ds, stAll rs = some ds ∧ ds.length ≤ sizeLine ∧ Q (.nw ds) := rfl
@[simp] theorem s_fz : wFz we τ Q = we τ fun r => fzR r fun d => Q (.st d) := rfl
@[simp] theorem s_cb {g : List R → (R → Prop) → Prop} : wCB g wr τ Q = wr τ fun rs => g rs Q := rfl
@[simp] theorem s_call {sp : DSp} : wCall sp wr τ Q = wr τ fun rs => rs.all argOk = true ∧ ∃ r, sp (rs.map nrm) r ∧ Q r := rfl
@[simp] theorem s_isi {T : String} : wIsi T we τ Q = we τ fun r => ∃ t, tyOfR r = some t ∧ Q (.st (.bl (isiB T t))) := rfl
@[simp] theorem s_sl {wl wh : WO} : wSl we wl wh τ Q = we τ fun x => wl τ fun l => wh τ fun u => slD x l u Q := rfl
@[simp] theorem s_oN {Q : Option Int → Prop} : oNone τ Q = Q none := rfl
@[simp] theorem s_oS {Q : Option Int → Prop} : oSome we τ Q = we τ fun r => intR r fun i => Q (some i) := rfl
@[simp] theorem s_neg : wNeg we τ Q = we τ fun r => intR r fun i => Q (.st (.int (-i))) := rfl
@[simp] theorem s_mget {kvs : List (Str × Int)} : wMget kvs we τ Q = we τ fun r => strR r fun k => ∃ i, lkp kvs k = some i ∧ Q (.st (.int i)) := rfl
@[simp] theorem s_min {kvs : List (Str × Int)} : wMin kvs we τ QB = we τ fun r => strR r fun k => QB (lkp kvs k).isSome := rfl
@[simp] theorem s_yes : tYes τ QB = QB true := rfl
@[simp] theorem s_comp {cap : List Nat} {wi : WIE} {g : WG} : wComp n cap wi g t we τ Q = wi τ fun ds => ds.length ≤ sizeLine ∧ compW g t we ds (blkSt n cap τ) fun es => Q (.nw es) := rfl
@[simp] theorem s_join : wJoin wa we τ Q = wa τ fun r1 => ∃ x, r1 = .st (.str x) ∧ we τ fun r => ∃ ds ys, lsAny r = some ds ∧ strsOf ds = some ys ∧ (ys.map (·.length)).sum + ys.length * x.length ≤ 16777216 ∧ Q (.st (.str (Txt.join x ys))) := rfl
@[simp] theorem s_gNm {Q : DSt → Prop} : gNm n d τ Q = Q (τ.set n (some (.dat d))) := rfl
@[simp] theorem s_gNl {Q : DSt → Prop} : gNl ds τ Q = (ds = [] ∧ Q τ) := rfl
@[simp] theorem s_gCn {g : WG} {gs : WGs} {Q : DSt → Prop} : gCn g gs ds τ Q = ∃ d r, ds = d :: r ∧ g d τ fun τ' => gs r τ' Q := rfl
@[simp] theorem s_gTp {gs : WGs} {Q : DSt → Prop} : gTp n gs d τ Q = ∃ ds, d = .tup ds ∧ ds.length = n ∧ gs ds τ Q := rfl
@[simp] theorem s_iLst {Q : List D → DSt → Prop} : iLst we τ Q = we τ fun r => ∃ ds, r = .st (.lst ds) ∧ Q ds τ := rfl
@[simp] theorem s_iTup {Q : List D → DSt → Prop} : iTup we τ Q = we τ fun r => ∃ ds, r = .st (.tup ds) ∧ Q ds τ := rfl
@[simp] theorem s_iRng1 {Q : List D → DSt → Prop} : iRng1 wr τ Q = wr τ fun rs => ∃ j : Int, rs = [.st (.int j)] ∧ -(2 ^ 62) ≤ j ∧ j < 2 ^ 62 ∧ Q (rngD 0 j.toNat) τ := rfl
@[simp] theorem s_jLst {Q : List D → Prop} : jLst we τ Q = we τ fun r => ∃ ds, lsAny r = some ds ∧ Q ds := rfl
@[simp] theorem s_jStr {Q : List D → Prop} : jStr we τ Q = we τ fun r => ∃ x, r = .st (.str x) ∧ Q (sgnD x) := rfl
@[simp] theorem s_jRng1 {Q : List D → Prop} : jRng1 wr τ Q = wr τ fun rs => ∃ j : Int, rs = [.st (.int j)] ∧ -(2 ^ 62) ≤ j ∧ j < 2 ^ 62 ∧ Q (rngD 0 j.toNat) := rfl
@[simp] theorem s_jEnum {Q : List D → Prop} : jEnum wr τ Q = wr τ fun rs => (∃ x, rs = [.st (.str x)] ∧ Q (enmD (sgnD x))) ∨ ∃ r ds, rs = [r] ∧ lsAny r = some ds ∧ Q (enmD ds) := rfl
@[simp] theorem s_rev : wRev we τ Q = we τ fun r => ∃ ds, r = .st (.tup ds) ∧ Q (.st (.tup ds.reverse)) := rfl
@[simp] theorem s_dget {kvs : List (Str × Int)} : wDget kvs wa we τ Q = wa τ fun r => strR r fun k => we τ fun z => ∃ d, z = .st d ∧ Q (.st (match lkp kvs k with | some i => .int i | none => d)) := rfl
@[simp] theorem o_rd1 : rdS (.dat d) = .st d := rfl
@[simp] theorem o_rd2 : rdS (.own ds) = .bw ds := rfl
@[simp] theorem o_rd3 : rdS (.bor ds) = .bw ds := rfl
@[simp] theorem o_sl1 : slotOf (.st d) = .dat d := rfl
@[simp] theorem o_sl2 : slotOf (.bw ds) = .bor ds := rfl
@[simp] theorem o_ret1 : retR (.st d) Q = Q (.st d) := rfl
@[simp] theorem o_ret2 : retR (.nw ds) Q = Q (.nw ds) := rfl
@[simp] theorem o_out1 : outS (.dat d) Q = Q (.st d) := rfl
@[simp] theorem o_out2 : outS (.own ds) Q = Q (.nw ds) := rfl
@[simp] theorem o_sto1 {P : Sl → Prop} : stoR (.st d) P = P (.dat d) := rfl
@[simp] theorem o_sto2 {P : Sl → Prop} : stoR (.nw ds) P = P (.own ds) := rfl
@[simp] theorem o_fz1 {P : D → Prop} : fzR (.st d) P = P d := rfl
@[simp] theorem o_fz2 {P : D → Prop} : fzR (.nw ds) P = P (.lst ds) := rfl
@[simp] theorem o_bl {b : Bool} : blR (.st (.bl b)) QB = QB b := rfl
@[simp] theorem o_int {P : Int → Prop} : intR (.st (.int i)) P = P i := rfl
@[simp] theorem o_str {P : Str → Prop} : strR (.st (.str x)) P = P x := rfl
@[simp] theorem o_d1 : R.d (.st d) = some d := rfl
@[simp] theorem o_d2 : R.d (.nw ds) = some (.lst ds) := rfl
@[simp] theorem o_d3 : R.d (.bw ds) = some (.lst ds) := rfl
@[simp] theorem o_nrm1 : nrm (.st d) = .st d := rfl
@[simp] theorem o_nrm2 : nrm (.nw ds) = .bw ds := rfl
@[simp] theorem o_nrm3 : nrm (.bw ds) = .bw ds := rfl
@[simp] theorem o_arg1 : argOk (.st d) = true := rfl
@[simp] theorem o_arg2 : argOk (.nw ds) = true := rfl
@[simp] theorem o_arg3 : argOk (.bw ds) = true := rfl
@[simp] theorem o_ls1 : lsAny (.st (.lst ds)) = some ds := rfl
@[simp] theorem o_ls2 : lsAny (.nw ds) = some ds := rfl
@[simp] theorem o_ls3 : lsAny (.bw ds) = some ds := rfl
@[simp] theorem o_lm2 : lsM (.nw ds) = some ds := rfl
@[simp] theorem o_lm3 : lsM (.bw ds) = some ds := rfl
@[simp] theorem o_sa0 : stAll [] = some [] := rfl
@[simp] theorem o_sa1 {rs : List R} : stAll (.st d :: rs) = (stAll rs).map (d :: ·) := rfl
@[simp] theorem o_ty0 : tyOfR (.st .non) = some "NoneType" := rfl
@[simp] theorem o_ty1 {b : Bool} : tyOfR (.st (.bl b)) = some "bool" := rfl
@[simp] theorem o_ty2 : tyOfR (.st (.int i)) = some "int" := rfl
@[simp] theorem o_ty3 : tyOfR (.st (.str x)) = some "str" := rfl
@[simp] theorem o_ty4 : tyOfR (.st (.tup ds)) = some "tuple" := rfl
@[simp] theorem o_ty7 : tyOfR (.st (.lst ds)) = some "list" := rfl
@[simp] theorem o_ty5 : tyOfR (.nw ds) = some "list" := rfl
@[simp] theorem o_ty6 : tyOfR (.bw ds) = some "list" := rfl
@[simp] theorem o_add1 : addD (.st (.int i)) (.st (.int j)) Q = Q (.st (.int (i + j))) := rfl
@[simp] theorem o_add2 : addD (.st (.str x)) (.st (.str y)) Q = (x.length + y.length ≤ sizeLine ∧ Q (.st (.str (x ++ y)))) := rfl
@[simp] theorem o_add3 : addD (.st (.tup ds)) (.st (.tup es)) Q = (ds.length + es.length ≤ sizeLine ∧ Q (.st (.tup (ds ++ es)))) := rfl
@[simp] theorem o_add4 : addD (.nw ds) (.nw es) Q = (ds.length + es.length ≤ sizeLine ∧ Q (.nw (ds ++ es))) := rfl
@[simp] theorem o_add5 : addD (.nw ds) (.bw es) Q = (ds.length + es.length ≤ sizeLine ∧ Q (.nw (ds ++ es))) := rfl
@[simp] theorem o_add6 : addD (.bw ds) (.nw es) Q = (ds.length + es.length ≤ sizeLine ∧ Q (.nw (ds ++ es))) := rfl
@[simp] theorem o_add7 : addD (.bw ds) (.bw es) Q = (ds.length + es.length ≤ sizeLine ∧ Q (.nw (ds ++ es))) := rfl
@[simp] theorem o_mul : mulD (.st (.int i)) (.st (.int j)) Q = (CMul i j ∧ Q (.st (.int (i * j)))) := rfl
@[simp] theorem o_intD {C : Int → Int → Prop} {f : Int → Int → Int} : TK.intD C f (.st (.int i)) (.st (.int j)) Q = (C i j ∧ Q (.st (.int (f i j)))) := rfl
@[simp] theorem o_cmpI {f : Int → Int → Bool} : cmpI f (.st (.int i)) (.st (.int j)) QB = QB (f i j) := rfl
@[simp] theorem o_ix1 : ixD (.st (.lst ds)) (.st (.int i)) Q = ∃ d, atI ds i = some d ∧ Q (.st d) := rfl
@[simp] theorem o_ix2 : ixD (.nw ds) (.st (.int i)) Q = ∃ d, atI ds i = some d ∧ Q (.st d) := rfl
@[simp] theorem o_ix3 : ixD (.bw ds) (.st (.int i)) Q = ∃ d, atI ds i = some d ∧ Q (.st d) := rfl
@[simp] theorem o_ix4 : ixD (.st (.tup ds)) (.st (.int i)) Q = ∃ d, atI ds i = some d ∧ Q (.st d) := rfl
@[simp] theorem o_len1 : lenD [.st (.lst ds)] Q = Q (.st (.int ds.length)) := rfl
@[simp] theorem o_len2 : lenD [.st (.tup ds)] Q = Q (.st (.int ds.length)) := rfl
@[simp] theorem o_len3 : lenD [.nw ds] Q = Q (.st (.int ds.length)) := rfl
@[simp] theorem o_len4 : lenD [.bw ds] Q = Q (.st (.int ds.length)) := rfl
@[simp] theorem o_len5 : lenD [.st (.str x)] Q = (x.length ≤ sizeLine ∧ Q (.st (.int x.length))) := rfl
@[simp] theorem o_eq {r1 r2 : R} {b : Bool} : eqD n b r1 r2 QB = ∃ d e, r1.d = some d ∧ r2.d = some e ∧ d.depth ≤ n ∧ QB (if b then !D.eq d e else D.eq d e) := rfl
@[simp] theorem o_sl4 {lo hi : Option Int} : slD (.st (.tup ds)) lo hi Q = Q (.st (.tup (cutL ds lo hi))) := rfl
@[simp] theorem o_slc {lo hi : Option Int} : slD (.st (.str x)) lo hi Q = (x.length ≤ sizeLine ∧ Q (.st (.str (Txt.slice x lo hi)))) := rfl
@[simp] theorem o_in1 : inD false (.st (.str x)) (.st (.str y)) QB = QB (inStr x y) := rfl
@[simp] theorem o_tr1 {b : Bool} : truR (.st (.bl b)) QB = QB b := rfl
@[simp] theorem o_tr2 : truR (.bw ds) QB = QB (!ds.isEmpty) := rfl
@[simp] theorem o_tr3 : truR (.nw ds) QB = QB (!ds.isEmpty) := rfl
@[simp] theorem o_lst {r : R} : listD [r] Q = ∃ ds, seqOf r = some ds ∧ Q (.nw ds) := rfl
@[simp] theorem o_sq1 : seqOf (.st (.tup ds)) = some ds := rfl
@[simp] theorem o_ib {b : Bool} : intOfD [.st (.bl b)] Q = Q (.st (.int (if b then 1 else 0))) := rfl
@[simp] theorem o_e1 : D.eq (.int i) (.int j) = (i == j) := by simp [D.eq]
@[simp] theorem o_e2 : D.eq (.str x) (.str y) = (x == y) := by simp [D.eq]
@[simp] theorem o_e3 {b c : Bool} : D.eq (.bl b) (.bl c) = (b == c) := by simp [D.eq]
@[simp] theorem o_e4 : D.eq (.lst ds) (.lst es) = D.eqs ds es := by simp [D.eq]
@[simp] theorem o_e5 : D.eq (.tup ds) (.tup es) = D.eqs ds es := by simp [D.eq]
@[simp] theorem o_eN : D.eqs ds [] = ds.isEmpty := by cases ds <;> simp [D.eqs]
@[simp] theorem o_ends {r r' : R} : (Ends1 r).rt r' = (r' = r) := rfl
@[simp] theorem o_endn {r : R} : (Ends1 r).nx τ = (r = .st .non) := rfl
@[simp] theorem o_dep0 : D.depth (.int i) = 0 := by simp [D.depth]
@[simp] theorem o_dep1 : D.depth (.str x) = 0 := by simp [D.depth]
@[simp] theorem o_zl : (0 : Nat) ≤ sizeLine := Nat.zero_le _
@[simp] theorem o_start {N : List Str} {rs : List R} : startD N rs = rs.map (fun r => some (slotOf r)) ++ List.replicate (N.length - rs.length) none := rfl
end
end TK
end
section
set_option maxRecDepth 100000
set_option maxHeartbeats 1000000
namespace TK
open PySem PySem.Spec PyProof.Rows L2
section
variable {X : Cx} {pins : List (Addr × Obj)} {σ : St} {H : Hp} {s : Shared}
open PySem.SeqAt
theorem rcNe_D (I : Inv X pins σ H s) (n : Nat) (d1 d2 : D) (v1 v2 : V) (u1 u2 : Value) (A : Around) (hd : d1.depth ≤ n) (h1 : IsW X.K H d1 v1) (h2 : IsW X.K H d2 v2) (r1 : RelV v1 u1) (r2 : RelV v2 u2) (hu : A.units + n + 1 < cLine) : RcNeAt A s u1 u2 (!D.eq d1 d2) := by
  revert hd h1 h2 r1 r2 hu
  exact match d1, d2, v1, v2, u1, u2, A with
    | .non, .non, v1, v2, u1, u2, A => fun hd h1 h2 r1 r2 hu => by
      cases (show v1 = .non from h1); cases r1
      cases (show v2 = .non from h2); cases r2
      unfold D.eq; exact RcNeAt.none_none
    | .non, .bl q, v1, v2, u1, u2, A => fun hd h1 h2 r1 r2 hu => by
      cases (show v1 = .non from h1); cases r1
      cases (show v2 = .bl q from h2); cases r2
      unfold D.eq; exact RcNeAt.none_bool  q
    | .non, .int q, v1, v2, u1, u2, A => fun hd h1 h2 r1 r2 hu => by
      cases (show v1 = .non from h1); cases r1
      cases (show v2 = .int q from h2); obtain ⟨t2, rfl⟩ := r2
      unfold D.eq; exact RcNeAt.none_int  q t2
    | .non, .str q, v1, v2, u1, u2, A => fun hd h1 h2 r1 r2 hu => by
      cases (show v1 = .non from h1); cases r1
      cases (show v2 = .str q from h2); obtain ⟨t2, rfl⟩ := r2
      unfold D.eq; exact RcNeAt.none_str  q t2
    | .non, .tup q, v1, v2, u1, u2, A => fun hd h1 h2 r1 r2 hu => by
      cases (show v1 = .non from h1); cases r1
      have h2 : IsS X.K H (.tup q) v2 := h2; unfold IsS at h2; obtain ⟨a2, xs2, rfl, sq2, al2⟩ := h2; cases r2; obtain ⟨its2, rv2, pl2, hz2⟩ := I.tuple (SqT.of sq2)
      unfold D.eq; exact RcNeAt.none_tuple  (pl2) (by omega)
    | .non, .lst q, v1, v2, u1, u2, A => fun hd h1 h2 r1 r2 hu => by
      cases (show v1 = .non from h1); cases r1
      obtain ⟨a2, xs2, rfl, sq2, al2⟩ := h2; cases r2; obtain ⟨its2, rv2, pl2, hz2⟩ := I.list sq2
      unfold D.eq; exact RcNeAt.none_list  (pl2.isList) (by omega)
    | .bl p, .non, v1, v2, u1, u2, A => fun hd h1 h2 r1 r2 hu => by
      cases (show v1 = .bl p from h1); cases r1
      cases (show v2 = .non from h2); cases r2
      unfold D.eq; exact RcNeAt.bool_none p 
    | .bl p, .bl q, v1, v2, u1, u2, A => fun hd h1 h2 r1 r2 hu => by
      cases (show v1 = .bl p from h1); cases r1
      cases (show v2 = .bl q from h2); cases r2
      unfold D.eq; exact RcNeAt.bool_bool p q
    | .bl p, .int q, v1, v2, u1, u2, A => fun hd h1 h2 r1 r2 hu => by
      cases (show v1 = .bl p from h1); cases r1
      cases (show v2 = .int q from h2); obtain ⟨t2, rfl⟩ := r2
      unfold D.eq; exact RcNeAt.bool_int p q t2
    | .bl p, .str q, v1, v2, u1, u2, A => fun hd h1 h2 r1 r2 hu => by
      cases (show v1 = .bl p from h1); cases r1
      cases (show v2 = .str q from h2); obtain ⟨t2, rfl⟩ := r2
      unfold D.eq; exact RcNeAt.bool_str p q t2
    | .bl p, .tup q, v1, v2, u1, u2, A => fun hd h1 h2 r1 r2 hu => by
      cases (show v1 = .bl p from h1); cases r1
      have h2 : IsS X.K H (.tup q) v2 := h2; unfold IsS at h2; obtain ⟨a2, xs2, rfl, sq2, al2⟩ := h2; cases r2; obtain ⟨its2, rv2, pl2, hz2⟩ := I.tuple (SqT.of sq2)
      unfold D.eq; exact RcNeAt.bool_tuple p (pl2) (by omega)
    | .bl p, .lst q, v1, v2, u1, u2, A => fun hd h1 h2 r1 r2 hu => by
      cases (show v1 = .bl p from h1); cases r1
      obtain ⟨a2, xs2, rfl, sq2, al2⟩ := h2; cases r2; obtain ⟨its2, rv2, pl2, hz2⟩ := I.list sq2
      unfold D.eq; exact RcNeAt.bool_list p (pl2.isList) (by omega)
    | .int p, .non, v1, v2, u1, u2, A => fun hd h1 h2 r1 r2 hu => by
      cases (show v1 = .int p from h1); obtain ⟨t1, rfl⟩ := r1
      cases (show v2 = .non from h2); cases r2
      unfold D.eq; exact RcNeAt.int_none p t1 
    | .int p, .bl q, v1, v2, u1, u2, A => fun hd h1 h2 r1 r2 hu => by
      cases (show v1 = .int p from h1); obtain ⟨t1, rfl⟩ := r1
      cases (show v2 = .bl q from h2); cases r2
      unfold D.eq; exact RcNeAt.int_bool p t1 q
    | .int p, .int q, v1, v2, u1, u2, A => fun hd h1 h2 r1 r2 hu => by
      cases (show v1 = .int p from h1); obtain ⟨t1, rfl⟩ := r1
      cases (show v2 = .int q from h2); obtain ⟨t2, rfl⟩ := r2
      unfold D.eq; exact RcNeAt.int_int p t1 q t2
    | .int p, .str q, v1, v2, u1, u2, A => fun hd h1 h2 r1 r2 hu => by
      cases (show v1 = .int p from h1); obtain ⟨t1, rfl⟩ := r1
      cases (show v2 = .str q from h2); obtain ⟨t2, rfl⟩ := r2
      unfold D.eq; exact RcNeAt.int_str p t1 q t2
    | .int p, .tup q, v1, v2, u1, u2, A => fun hd h1 h2 r1 r2 hu => by
      cases (show v1 = .int p from h1); obtain ⟨t1, rfl⟩ := r1
      have h2 : IsS X.K H (.tup q) v2 := h2; unfold IsS at h2; obtain ⟨a2, xs2, rfl, sq2, al2⟩ := h2; cases r2; obtain ⟨its2, rv2, pl2, hz2⟩ := I.tuple (SqT.of sq2)
      unfold D.eq; exact RcNeAt.int_tuple p t1 (pl2) (by omega)
    | .int p, .lst q, v1, v2, u1, u2, A => fun hd h1 h2 r1 r2 hu => by
      cases (show v1 = .int p from h1); obtain ⟨t1, rfl⟩ := r1
      obtain ⟨a2, xs2, rfl, sq2, al2⟩ := h2; cases r2; obtain ⟨its2, rv2, pl2, hz2⟩ := I.list sq2
      unfold D.eq; exact RcNeAt.int_list p t1 (pl2.isList) (by omega)
    | .str p, .non, v1, v2, u1, u2, A => fun hd h1 h2 r1 r2 hu => by
      cases (show v1 = .str p from h1); obtain ⟨t1, rfl⟩ := r1
      cases (show v2 = .non from h2); cases r2
      unfold D.eq; exact RcNeAt.str_none p t1 
    | .str p, .bl q, v1, v2, u1, u2, A => fun hd h1 h2 r1 r2 hu => by
      cases (show v1 = .str p from h1); obtain ⟨t1, rfl⟩ := r1
      cases (show v2 = .bl q from h2); cases r2
      unfold D.eq; exact RcNeAt.str_bool p t1 q
    | .str p, .int q, v1, v2, u1, u2, A => fun hd h1 h2 r1 r2 hu => by
      cases (show v1 = .str p from h1); obtain ⟨t1, rfl⟩ := r1
      cases (show v2 = .int q from h2); obtain ⟨t2, rfl⟩ := r2
      unfold D.eq; exact RcNeAt.str_int p t1 q t2
    | .str p, .str q, v1, v2, u1, u2, A => fun hd h1 h2 r1 r2 hu => by
      cases (show v1 = .str p from h1); obtain ⟨t1, rfl⟩ := r1
      cases (show v2 = .str q from h2); obtain ⟨t2, rfl⟩ := r2
      unfold D.eq; exact RcNeAt.str_str p t1 q t2
    | .str p, .tup q, v1, v2, u1, u2, A => fun hd h1 h2 r1 r2 hu => by
      cases (show v1 = .str p from h1); obtain ⟨t1, rfl⟩ := r1
      have h2 : IsS X.K H (.tup q) v2 := h2; unfold IsS at h2; obtain ⟨a2, xs2, rfl, sq2, al2⟩ := h2; cases r2; obtain ⟨its2, rv2, pl2, hz2⟩ := I.tuple (SqT.of sq2)
      unfold D.eq; exact RcNeAt.str_tuple p t1 (pl2) (by omega)
    | .str p, .lst q, v1, v2, u1, u2, A => fun hd h1 h2 r1 r2 hu => by
      cases (show v1 = .str p from h1); obtain ⟨t1, rfl⟩ := r1
      obtain ⟨a2, xs2, rfl, sq2, al2⟩ := h2; cases r2; obtain ⟨its2, rv2, pl2, hz2⟩ := I.list sq2
      unfold D.eq; exact RcNeAt.str_list p t1 (pl2.isList) (by omega)
    | .tup p, .non, v1, v2, u1, u2, A => fun hd h1 h2 r1 r2 hu => by
      have h1 : IsS X.K H (.tup p) v1 := h1; unfold IsS at h1; obtain ⟨a1, xs1, rfl, sq1, al1⟩ := h1; cases r1; obtain ⟨its1, rv1, pl1, hz1⟩ := I.tuple (SqT.of sq1)
      cases (show v2 = .non from h2); cases r2
      unfold D.eq; exact RcNeAt.tuple_none  (pl1) (by omega)
    | .tup p, .bl q, v1, v2, u1, u2, A => fun hd h1 h2 r1 r2 hu => by
      have h1 : IsS X.K H (.tup p) v1 := h1; unfold IsS at h1; obtain ⟨a1, xs1, rfl, sq1, al1⟩ := h1; cases r1; obtain ⟨its1, rv1, pl1, hz1⟩ := I.tuple (SqT.of sq1)
      cases (show v2 = .bl q from h2); cases r2
      unfold D.eq; exact RcNeAt.tuple_bool q (pl1) (by omega)
    | .tup p, .int q, v1, v2, u1, u2, A => fun hd h1 h2 r1 r2 hu => by
      have h1 : IsS X.K H (.tup p) v1 := h1; unfold IsS at h1; obtain ⟨a1, xs1, rfl, sq1, al1⟩ := h1; cases r1; obtain ⟨its1, rv1, pl1, hz1⟩ := I.tuple (SqT.of sq1)
      cases (show v2 = .int q from h2); obtain ⟨t2, rfl⟩ := r2
      unfold D.eq; exact RcNeAt.tuple_int q t2 (pl1) (by omega)
    | .tup p, .str q, v1, v2, u1, u2, A => fun hd h1 h2 r1 r2 hu => by
      have h1 : IsS X.K H (.tup p) v1 := h1; unfold IsS at h1; obtain ⟨a1, xs1, rfl, sq1, al1⟩ := h1; cases r1; obtain ⟨its1, rv1, pl1, hz1⟩ := I.tuple (SqT.of sq1)
      cases (show v2 = .str q from h2); obtain ⟨t2, rfl⟩ := r2
      unfold D.eq; exact RcNeAt.tuple_str q t2 (pl1) (by omega)
    | .tup p, .tup q, v1, v2, u1, u2, A => fun hd h1 h2 r1 r2 hu => by
      have h1 : IsS X.K H (.tup p) v1 := h1; unfold IsS at h1; obtain ⟨a1, xs1, rfl, sq1, al1⟩ := h1; cases r1; obtain ⟨its1, rv1, pl1, hz1⟩ := I.tuple (SqT.of sq1)
      have h2 : IsS X.K H (.tup q) v2 := h2; unfold IsS at h2; obtain ⟨a2, xs2, rfl, sq2, al2⟩ := h2; cases r2; obtain ⟨its2, rv2, pl2, hz2⟩ := I.tuple (SqT.of sq2)
      have hd : D.depths p + 1 ≤ n := by unfold D.depth at hd; exact hd
      have l1 : its1.toArray.size = p.length := by have := al1.length; have := rv1.length; simp; omega
      have l2 : its2.toArray.size = q.length := by have := al2.length; have := rv2.length; simp; omega
      have k := RcNeAt.tuples (A := A) (s := s) (e := fun i => match p[i]?, q[i]? with | some x, some y => D.eq x y | _, _ => true) pl1 pl2 (by omega) (fun j hj1 hj2 => by
        obtain ⟨d1, v1, e1, i1, w1⟩ := allS_at al1 rv1 hj1
        obtain ⟨d2, v2, e2, i2, w2⟩ := allS_at al2 rv2 hj2
        simp only [e1, e2]
        exact eq_of_rc I (fun A => rc_D I n d1 d2 v1 v2 _ _ A (by have := D.depths_get e1; omega) i1.w i2.w w1 w2) i1 i2 w1 w2 (by simp only [Around.in1_units]; omega))
      rw [l1, l2] at k
      unfold D.eq; rw [D.eqs_range]; exact k
    | .tup p, .lst q, v1, v2, u1, u2, A => fun hd h1 h2 r1 r2 hu => by
      have h1 : IsS X.K H (.tup p) v1 := h1; unfold IsS at h1; obtain ⟨a1, xs1, rfl, sq1, al1⟩ := h1; cases r1; obtain ⟨its1, rv1, pl1, hz1⟩ := I.tuple (SqT.of sq1)
      obtain ⟨a2, xs2, rfl, sq2, al2⟩ := h2; cases r2; obtain ⟨its2, rv2, pl2, hz2⟩ := I.list sq2
      unfold D.eq; exact RcNeAt.tuple_list (pl1) (pl2.isList) (by omega)
    | .lst p, .non, v1, v2, u1, u2, A => fun hd h1 h2 r1 r2 hu => by
      obtain ⟨a1, xs1, rfl, sq1, al1⟩ := h1; cases r1; obtain ⟨its1, rv1, pl1, hz1⟩ := I.list sq1
      cases (show v2 = .non from h2); cases r2
      unfold D.eq; exact RcNeAt.list_none  (pl1.isList) (by omega)
    | .lst p, .bl q, v1, v2, u1, u2, A => fun hd h1 h2 r1 r2 hu => by
      obtain ⟨a1, xs1, rfl, sq1, al1⟩ := h1; cases r1; obtain ⟨its1, rv1, pl1, hz1⟩ := I.list sq1
      cases (show v2 = .bl q from h2); cases r2
      unfold D.eq; exact RcNeAt.list_bool q (pl1.isList) (by omega)
    | .lst p, .int q, v1, v2, u1, u2, A => fun hd h1 h2 r1 r2 hu => by
      obtain ⟨a1, xs1, rfl, sq1, al1⟩ := h1; cases r1; obtain ⟨its1, rv1, pl1, hz1⟩ := I.list sq1
      cases (show v2 = .int q from h2); obtain ⟨t2, rfl⟩ := r2
      unfold D.eq; exact RcNeAt.list_int q t2 (pl1.isList) (by omega)
    | .lst p, .str q, v1, v2, u1, u2, A => fun hd h1 h2 r1 r2 hu => by
      obtain ⟨a1, xs1, rfl, sq1, al1⟩ := h1; cases r1; obtain ⟨its1, rv1, pl1, hz1⟩ := I.list sq1
      cases (show v2 = .str q from h2); obtain ⟨t2, rfl⟩ := r2
      unfold D.eq; exact RcNeAt.list_str q t2 (pl1.isList) (by omega)
    | .lst p, .tup q, v1, v2, u1, u2, A => fun hd h1 h2 r1 r2 hu => by
      obtain ⟨a1, xs1, rfl, sq1, al1⟩ := h1; cases r1; obtain ⟨its1, rv1, pl1, hz1⟩ := I.list sq1
      have h2 : IsS X.K H (.tup q) v2 := h2; unfold IsS at h2; obtain ⟨a2, xs2, rfl, sq2, al2⟩ := h2; cases r2; obtain ⟨its2, rv2, pl2, hz2⟩ := I.tuple (SqT.of sq2)
      unfold D.eq; exact RcNeAt.list_tuple (pl1.isList) (pl2) (by omega)
    | .lst p, .lst q, v1, v2, u1, u2, A => fun hd h1 h2 r1 r2 hu => by
      obtain ⟨a1, xs1, rfl, sq1, al1⟩ := h1; cases r1; obtain ⟨its1, rv1, pl1, hz1⟩ := I.list sq1
      obtain ⟨a2, xs2, rfl, sq2, al2⟩ := h2; cases r2; obtain ⟨its2, rv2, pl2, hz2⟩ := I.list sq2
      have hd : D.depths p + 1 ≤ n := by unfold D.depth at hd; exact hd
      have l1 : its1.toArray.size = p.length := by have := al1.length; have := rv1.length; simp; omega
      have l2 : its2.toArray.size = q.length := by have := al2.length; have := rv2.length; simp; omega
      have kk : RcNeAt A s (.ref a1) (.ref a2) (!D.eqs p q) := by
        rw [D.eqs_range]
        by_cases hlen : p.length = q.length
        · have k := RcNeAt.lists (A := A) (s := s) (e := fun i => match p[i]?, q[i]? with | some x, some y => D.eq x y | _, _ => true) pl1.isList pl2.isList (by omega) (by omega) (fun j hj1 hj2 => by
            obtain ⟨d1, v1, e1, i1, w1⟩ := allS_at al1 rv1 hj1
            obtain ⟨d2, v2, e2, i2, w2⟩ := allS_at al2 rv2 hj2
            simp only [e1, e2]
            exact eq_of_rc I (fun A => rc_D I n d1 d2 v1 v2 _ _ A (by have := D.depths_get e1; omega) i1.w i2.w w1 w2) i1 i2 w1 w2 (by simp only [Around.in1_units]; omega))
          rw [l1] at k
          rw [← hlen, Nat.min_self, beq_self_eq_true, Bool.and_true]
          exact k
        · rw [beq_eq_false_iff_ne.mpr hlen, Bool.and_false]
          exact RcNeAt.lists_lengths pl1.isList pl2.isList (by rw [l1, l2]; simpa using hlen) (by omega)
      unfold D.eq; exact kk
theorem cd_neD {n : Nat} (hu : X.A.units + n + 1 < cLine) : CmpD X .NotEq (eqD n true) := by
  intro pins s σ H x y v u Q I rx ry ⟨r1, r2, h1, h2, d, e, e1, e2, hd, q⟩
  exact rcNe_D I n d e x y v u X.A hd (h1.w e1) (h2.w e2) rx ry hu _ _ _ _ ⟨.bl _, H, I, rfl, q⟩
theorem hu59 {A : Around} {k : Nat} (hr : Room k A) : A.units + 59 + 1 < cLine := by have := hr.units; omega
end
section
variable {X : Cx} {H0 : Hp} {a b c e o tg : Expr} {pos apos cpos : Pos} {wa wb wc we : WE} {wr : WA}
noncomputable def wChain (g g' : R → R → (Bool → Prop) → Prop) (wa wb wc : WE) : WT := fun τ Q => wa τ fun x => wb τ fun y => g x y fun k => if k = true then wc τ fun z => g' y z Q else Q false
noncomputable def boolsOf : List D → Option (List Bool)
  | [] => some []
  | .bl x :: r => (boolsOf r).map (x :: ·)
  | _ :: _ => none
noncomputable def intsOf : List D → Option (List Int)
  | [] => some []
  | .int x :: r => (intsOf r).map (x :: ·)
  | _ :: _ => none
noncomputable def allD : List R → (R → Prop) → Prop
  | [r], Q => ∃ ds bs, lsAny r = some ds ∧ boolsOf ds = some bs ∧ Q (.st (.bl (bs.all id)))
  | _, _ => False
noncomputable def anyD : List R → (R → Prop) → Prop
  | [r], Q => ∃ ds bs, lsAny r = some ds ∧ boolsOf ds = some bs ∧ Q (.st (.bl (bs.any id)))
  | _, _ => False
noncomputable def strOfD : List R → (R → Prop) → Prop
  | [.st (.int i)], Q => i.natAbs.log2 < 1920 ∧ Q (.st (.str (toString i)))
  | [.st (.bl k)], Q => Q (.st (.str (if k then "True" else "False")))
  | _, _ => False
noncomputable def b2i' (k : Bool) : Int := if k = true then 1 else 0
noncomputable def numD : R → Option Int
  | .st (.int i) => some i
  | .st (.bl k) => some (b2i' k)
  | _ => none
noncomputable def isI : R → Bool
  | .st (.int _) => true
  | _ => false
noncomputable def numOp (f : Int → Int → Int) (x y : R) (Q : R → Prop) : Prop := ∃ i j, numD x = some i ∧ numD y = some j ∧ (isI x || isI y) = true ∧ Q (.st (.int (f i j)))
noncomputable def addL (x y : R) (Q : R → Prop) : Prop := ∃ i j, lsAny x = some i ∧ lsAny y = some j ∧ i.length + j.length ≤ sizeLine ∧ Q (.nw (i ++ j))
noncomputable def idxS (x y : Str) : Option Nat := (Builtin.Str.occurrences x y 0 x.length 1).head?
noncomputable def wIdx (wo we : WE) : WE := fun τ Q => wo τ fun r1 => ∃ x, r1 = .st (.str x) ∧ we τ fun r => ∃ y i, r = .st (.str y) ∧ idxS x y = some i ∧ Q (.st (.int (i : Int)))
noncomputable def iStr (we : WE) : WI := fun τ Q => we τ fun r => ∃ x, r = .st (.str x) ∧ Q (sgnD x) τ
end
end TK
end
section
set_option maxRecDepth 100000
namespace TK
open PySem PySem.Spec PyProof.Rows L2
noncomputable def consR (ds : List D) (P : D → List D → Prop) : Prop := match ds with
  | [] => False
  | d :: r => P d r
noncomputable def tupR (d : D) (P : List D → Prop) : Prop := match d with
  | .tup ds => P ds
  | _ => False
noncomputable def stR (r : R) (P : D → Prop) : Prop := match r with
  | .st d => P d
  | _ => False
section
variable {τ : DSt} {Q : R → Prop} {QB : Bool → Prop} {wa wb wc we : WE} {wr : WA} {n : Nat} {d e : D} {ds es : List D} {i j : Int} {x y : Str}
@[simp] theorem s_chain {g g' : R → R → (Bool → Prop) → Prop} : wChain g g' wa wb wc τ QB = wa τ fun x => wb τ fun y => g x y fun k => if k = true then wc τ fun z => g' y z QB else QB false := rfl
@[simp] theorem s_iStr {Q : List D → DSt → Prop} : iStr we τ Q = we τ fun r => ∃ x, r = .st (.str x) ∧ Q (sgnD x) τ := rfl
@[simp] theorem s_idx : wIdx wa we τ Q = wa τ fun r1 => ∃ x, r1 = .st (.str x) ∧ we τ fun r => ∃ y i, r = .st (.str y) ∧ idxS x y = some i ∧ Q (.st (.int (i : Int))) := rfl
@[simp] theorem s_jTup {Q : List D → Prop} : jTup we τ Q = we τ fun r => ∃ ds, r = .st (.tup ds) ∧ Q ds := rfl
@[simp] theorem o_all {r : R} : allD [r] Q = ∃ ds bs, lsAny r = some ds ∧ boolsOf ds = some bs ∧ Q (.st (.bl (bs.all id))) := rfl
@[simp] theorem o_any {r : R} : anyD [r] Q = ∃ ds bs, lsAny r = some ds ∧ boolsOf ds = some bs ∧ Q (.st (.bl (bs.any id))) := rfl
@[simp] theorem o_addL {r r' : R} : addL r r' Q = ∃ i j, lsAny r = some i ∧ lsAny r' = some j ∧ i.length + j.length ≤ sizeLine ∧ Q (.nw (i ++ j)) := rfl
@[simp] theorem o_num {f : Int → Int → Int} {r r' : R} : numOp f r r' Q = ∃ i j, numD r = some i ∧ numD r' = some j ∧ (isI r || isI r') = true ∧ Q (.st (.int (f i j))) := rfl
@[simp] theorem o_nd1 : numD (.st (.int i)) = some i := rfl
@[simp] theorem o_nd2 {k : Bool} : numD (.st (.bl k)) = some (b2i' k) := rfl
@[simp] theorem o_ii1 : isI (.st (.int i)) = true := rfl
@[simp] theorem o_ii2 {k : Bool} : isI (.st (.bl k)) = false := rfl
@[simp] theorem o_st1 : strOfD [.st (.int i)] Q = (i.natAbs.log2 < 1920 ∧ Q (.st (.str (toString i)))) := rfl
@[simp] theorem o_st2 {k : Bool} : strOfD [.st (.bl k)] Q = Q (.st (.str (if k then "True" else "False"))) := rfl
@[simp] theorem o_tup {r : R} : tupleD [r] Q = ∃ ds, seqOf r = some ds ∧ Q (.st (.tup ds)) := rfl
@[simp] theorem o_sq2 : seqOf (.nw ds) = some ds := rfl
@[simp] theorem o_sq3 : seqOf (.bw ds) = some ds := rfl
@[simp] theorem o_ne {d e : D} : neD (.st d) (.st e) QB ↔ (scD d e = true ∧ QB (!D.eq d e)) := by
  constructor
  · rintro ⟨a, b, h1, h2, h3, h4⟩
    cases h1; cases h2
    exact ⟨h3, h4⟩
  · rintro ⟨h3, h4⟩
    exact ⟨d, e, rfl, rfl, h3, h4⟩
@[simp high] theorem s_gCn2 {g : WG} {gs : WGs} {Q : DSt → Prop} : gCn g gs ds τ Q ↔ consR ds fun d r => g d τ fun τ' => gs r τ' Q := by
  constructor
  · rintro ⟨a, b, h, q⟩
    cases h; exact q
  · intro h
    cases ds with
    | nil => exact h.elim
    | cons d r => exact ⟨d, r, rfl, h⟩
@[simp high] theorem s_gTp2 {gs : WGs} {Q : DSt → Prop} : gTp n gs d τ Q ↔ tupR d fun ds => ds.length = n ∧ gs ds τ Q := by
  constructor
  · rintro ⟨a, h, q⟩
    cases h; exact q
  · intro h
    cases d with
    | tup ds => exact ⟨ds, rfl, h⟩
    | _ => exact h.elim
@[simp high] theorem s_asg2 {g : WG} {E : DEnds} : wAsg we g E τ ↔ we τ fun r => stR r fun d => g d τ E.nx := by
  have e : (fun r => ∃ d, r = R.st d ∧ g d τ E.nx) = fun r => stR r fun d => g d τ E.nx := by
    funext r
    apply propext
    constructor
    · rintro ⟨d, rfl, h⟩; exact h
    · intro h
      cases r with
      | st d => exact ⟨d, rfl, h⟩
      | _ => exact h.elim
  show (we τ fun r => ∃ d, r = R.st d ∧ g d τ E.nx) ↔ _
  rw [e]
@[simp] theorem o_consR {P : D → List D → Prop} : consR (d :: ds) P = P d ds := rfl
@[simp] theorem o_tupR {P : List D → Prop} : tupR (.tup ds) P = P ds := rfl
@[simp] theorem o_stR {P : D → Prop} : stR (.st d) P = P d := rfl
@[simp] theorem o_sc1 : scD (.int i) (.int j) = true := rfl
@[simp] theorem o_sc2 {k l : Bool} : scD (.bl k) (.bl l) = true := rfl
@[simp] theorem o_sc3 : scD (.str x) (.str y) = true := rfl
end
theorem comp_map {we : WE} {f : D → D} {rest : DSt} : ∀ (ds : List D) (o : Option Sl) (Q : List D → Prop), (∀ d ∈ ds, ∀ Q' : R → Prop, Q' (.st (f d)) → we (some (.dat d) :: rest) Q') → Q (ds.map f) → compW (gNm 0) tYes we ds (o :: rest) Q
  | [], o, Q, h, q => q
  | d :: ds, o, Q, h, q => by
    simp only [compW]
    simp
    refine h d List.mem_cons_self _ ⟨_, rfl, ?_⟩
    exact comp_map ds _ _ (fun d hd => h d (List.mem_cons_of_mem _ hd)) q
theorem comp_filter {t : WT} {we : WE} {p : D → Bool} {f : D → D} {rest : DSt} : ∀ (ds : List D) (o : Option Sl) (Q : List D → Prop), (∀ d ∈ ds, ∀ Q' : Bool → Prop, Q' (p d) → t (some (.dat d) :: rest) Q') →
    (∀ d ∈ ds, ∀ Q' : R → Prop, p d = true → Q' (.st (f d)) → we (some (.dat d) :: rest) Q') → Q ((ds.filter p).map f) → compW (gNm 0) t we ds (o :: rest) Q
  | [], o, Q, h, h2, q => q
  | d :: ds, o, Q, h, h2, q => by
    simp only [compW]
    simp
    refine h d List.mem_cons_self _ ?_
    cases hp : p d with
    | false =>
      rw [List.filter_cons_of_neg (by simp [hp])] at q
      simp
      exact comp_filter ds _ _ (fun d hd => h d (List.mem_cons_of_mem _ hd)) (fun d hd => h2 d (List.mem_cons_of_mem _ hd)) q
    | true =>
      rw [List.filter_cons_of_pos hp] at q
      simp
      refine h2 d List.mem_cons_self _ hp ⟨_, rfl, ?_⟩
      exact comp_filter ds _ _ (fun d hd => h d (List.mem_cons_of_mem _ hd)) (fun d hd => h2 d (List.mem_cons_of_mem _ hd)) q
theorem boolsOf_map {f : D → Bool} : ∀ ds : List D, boolsOf (ds.map fun d => .bl (f d)) = some (ds.map f)
  | [] => rfl
  | d :: ds => by simp [boolsOf, boolsOf_map ds]
end TK
end
section
set_option maxRecDepth 100000
set_option maxHeartbeats 1000000
namespace HT
open PySem PySem.Spec PyProof.Rows
open AutoSeq1 (wpAny_loadPart')
section
variable {prog : Program} {w : World} {A : Around} {E : Value → Shared → Prop} {s : Shared}
end
end HT
namespace TK
open PySem PySem.Spec PyProof.Rows L2
section
variable {X : Cx}
noncomputable def mulK (x y : R) (Q : R → Prop) : Prop := ∃ ds k, x = .st (.tup ds) ∧ y = .st (.int k) ∧ 2 ≤ k ∧ k ≤ 1000 ∧ ds ≠ [] ∧ (ds.length : Int) * k ≤ (sizeLine : Int) ∧ Q (.st (.tup (List.replicate k.toNat ds).flatten))
@[simp] theorem o_mulK {ds : List D} {k : Int} {Q : R → Prop} : mulK (.st (.tup ds)) (.st (.int k)) Q ↔ (2 ≤ k ∧ k ≤ 1000 ∧ ds ≠ [] ∧ (ds.length : Int) * k ≤ (sizeLine : Int) ∧ Q (.st (.tup (List.replicate k.toNat ds).flatten))) := by
  constructor
  · rintro ⟨a, b, h1, h2, h3⟩
    cases h1; cases h2
    exact h3
  · intro h
    exact ⟨ds, k, rfl, rfl, h⟩
end
end TK
end
section
set_option maxRecDepth 100000
set_option maxHeartbeats 1000000
namespace HT
open PySem PySem.Spec PyProof.Rows
section
variable {prog : Program} {w : World} {A : Around} {E : Value → Shared → Prop} {s : Shared}
end
end HT
namespace TK
open PySem PySem.Spec PyProof.Rows L2
section
variable {X : Cx} {H0 : Hp} {a b c e tg : Expr} {pos p p2 pos2 : Pos} {wa wb we : WE} {wr : WA}
noncomputable def rngR (n : Nat) : List D := (List.range n).map fun (i : Nat) => .int ((n : Int) - 1 - (i : Int))
noncomputable def iRev1 (wr : WA) : WI := fun τ Q => wr τ fun rs => ∃ j : Int, rs = [.st (.int j)] ∧ 0 ≤ j ∧ j < 2 ^ 62 ∧ Q (rngR j.toNat) τ
noncomputable def jRevL (wr : WA) : WIE := fun τ Q => wr τ fun rs => ∃ r ds, rs = [r] ∧ lsAny r = some ds ∧ Q ds.reverse
noncomputable def zipD (ds es : List D) : List D := (ds.zip es).map fun p => .tup [p.1, p.2]
noncomputable def jZip (wr : WA) : WIE := fun τ Q => wr τ fun rs => ∃ r r' ds es, rs = [r, r'] ∧ lsAny r = some ds ∧ lsAny r' = some es ∧ Q (zipD ds es)
end
end TK
end
section
set_option maxRecDepth 100000
set_option maxHeartbeats 1000000
namespace HT
open PySem PySem.Spec PyProof.Rows L2
section
variable {prog : Program} {w : World} {A : Around} {E : Value → Shared → Prop} {s : Shared}
end
end HT
end
section
set_option maxRecDepth 100000
set_option maxHeartbeats 1000000
namespace TK
open PySem PySem.Spec PyProof.Rows L2
noncomputable def keyD : D → Option Key
  | .int i => some (.inl i)
  | .str x => some (.inr x)
  | _ => none
noncomputable def keysD : List D → Option (List Key)
  | [] => some []
  | d :: r => (keyD d).bind fun k => (keysD r).map (k :: ·)
section
variable {κ : Type} [DecidableEq κ]
noncomputable def valD (kvs : List (κ × D)) (k : κ) : Option D := (kvs.find? fun kv => decide (kv.1 = k)).map (·.2)
noncomputable def putD (kvs : List (κ × D)) (k : κ) (v : D) : List (κ × D) := if (kvs.any fun kv => decide (kv.1 = k)) = true then kvs.map (fun kv => if kv.1 = k then (kv.1, v) else kv) else kvs ++ [(k, v)]
end
section
variable {X : Cx} {H0 : Hp} {a b c e o tg : Expr} {pos pos' p2 apos cpos : Pos} {wa wb wi we : WE} {x : Str}
noncomputable def wDNew (i : Nat) : WS := fun E τ => E.nx (τ.set i (some (.dt [])))
noncomputable def wDGet (i : Nat) (we : WE) : WE := fun τ Q => ∃ kvs, τ[i]? = some (some (.dt kvs)) ∧ we τ fun r => ∃ ds ks d, r = .st (.tup ds) ∧ keysD ds = some ks ∧ valD kvs ks = some d ∧ Q (.st d)
noncomputable def wDNotIn (i : Nat) (we : WE) : WT := fun τ Q => ∃ kvs, τ[i]? = some (some (.dt kvs)) ∧ we τ fun r => ∃ ds ks, r = .st (.tup ds) ∧ keysD ds = some ks ∧ Q (!(valD kvs ks).isSome)
noncomputable def wDPut (i : Nat) (we wv : WE) : WS := fun E τ => wv τ fun r => ∃ d, r = .st d ∧ ∃ kvs, τ[i]? = some (some (.dt kvs)) ∧ we τ fun rk => ∃ ds ks, rk = .st (.tup ds) ∧ keysD ds = some ks ∧ kvs.length < sizeLine ∧ E.nx (τ.set i (some (.dt (putD kvs ks d))))
noncomputable def wSetIx (i : Nat) (wi wv : WE) : WS := fun E τ => wv τ fun r => ∃ d, r = .st d ∧ ∃ ds, τ[i]? = some (some (.own ds)) ∧ wi τ fun rk => ∃ k j, rk = .st (.int k) ∧ ixN ds.length k = some j ∧ E.nx (τ.set i (some (.own (ds.set j d))))
noncomputable def wDelTail (i : Nat) (we : WE) : WS := fun E τ => ∃ ds, τ[i]? = some (some (.own ds)) ∧ we τ fun r => ∃ k : Nat, r = .st (.int (-(k : Int))) ∧ 0 < k ∧ k ≤ ds.length ∧ E.nx (τ.set i (some (.own (ds.take (ds.length - k)))))
noncomputable def wBitlen (we : WE) : WE := fun τ Q => we τ fun r => intR r fun i => Q (.st (.int (Builtin.Int.intBits i)))
end
end TK
end
section
set_option maxRecDepth 100000
namespace TK
open PySem PySem.Spec PyProof.Rows L2
noncomputable def mk (p : Nat → Bool) : Nat → Nat
  | 0 => 0
  | m + 1 => mk p m + if p m then 2 ^ m else 0
end TK
end
section
set_option maxRecDepth 100000
namespace TK
open PySem PySem.Spec PyProof.Rows L2
inductive Sh where
  | none | empty | signs (s : Str) | thn (a b : Sh) | or (a b : Sh) | and (a b : Sh) | not (a : Sh) | many (a : Sh)
  deriving DecidableEq
noncomputable def Sh.word : Sh → Str
  | .none => "none" | .empty => "empty" | .signs _ => "signs" | .thn _ _ => "then" | .or _ _ => "or" | .and _ _ => "and" | .not _ => "not" | .many _ => "many"
noncomputable def Sh.kids : Sh → List Sh
  | .thn a b => [a, b] | .or a b => [a, b] | .and a b => [a, b] | .not a => [a] | .many a => [a] | _ => []
noncomputable def Sh.toD : Sh → D
  | .none => .tup [.str "none"]
  | .empty => .tup [.str "empty"]
  | .signs s => .tup [.str "signs", .str s]
  | .thn a b => .tup [.str "then", a.toD, b.toD]
  | .or a b => .tup [.str "or", a.toD, b.toD]
  | .and a b => .tup [.str "and", a.toD, b.toD]
  | .not a => .tup [.str "not", a.toD]
  | .many a => .tup [.str "many", a.toD]
noncomputable def Sh.size : Sh → Nat
  | .thn a b => a.size + b.size + 1 | .or a b => a.size + b.size + 1 | .and a b => a.size + b.size + 1 | .not a => a.size + 1 | .many a => a.size + 1 | _ => 1
noncomputable def Sh.high : Sh → Nat
  | .thn a b => max a.high b.high + 1 | .or a b => max a.high b.high + 1 | .and a b => max a.high b.high + 1 | .not a => a.high + 1 | .many a => a.high + 1 | _ => 0
noncomputable def manyP (p : Nat → Nat → Bool) : Nat → Nat → Nat → Bool
  | 0, b, e => b == e
  | f + 1, b, e => b == e || (List.range (e - b)).any fun k => p b (b + k + 1) && manyP p f (b + k + 1) e
noncomputable def fitP (L : List Nat) : Sh → Nat → Nat → Bool
  | .none, _, _ => false
  | .empty, b, e => b == e
  | .signs s, b, e => e == b + 1 && match L[b]? with
    | some c => inStr ⟨#[c]⟩ s
    | Option.none => false
  | .not a, b, e => !fitP L a b e
  | .or a c, b, e => fitP L a b e || fitP L c b e
  | .and a c, b, e => fitP L a b e && fitP L c b e
  | .thn a c, b, e => (List.range (e - b + 1)).any fun k => fitP L a b (b + k) && fitP L c (b + k) e
  | .many a, b, e => manyP (fitP L a) (e - b) b e
noncomputable def pf (L : List Nat) (s : Sh) (b e : Nat) : Bool := decide (b ≤ e) && fitP L s b e
noncomputable def tabI (L : List Nat) (s : Sh) (b : Nat) : D := .int ((mk (pf L s b) (L.length + 1) : Nat) : Int)
noncomputable def tabD (L : List Nat) (s : Sh) : List D := (List.range (L.length + 1)).map (tabI L s)
end TK
end
section
set_option maxRecDepth 100000
namespace TK
open PySem PySem.Spec PyProof.Rows L2
section
variable {τ : DSt} {E : DEnds} {Q : R → Prop} {QB : Bool → Prop} {wa wb wc we : WE} {wr : WA} {n : Nat} {d e : D} {ds es : List D} {i j : Int} {x y : Str}
@[simp] theorem s_bitlen : wBitlen we τ Q = we τ fun r => intR r fun i => Q (.st (.int (Builtin.Int.intBits i))) := rfl
@[simp] theorem s_inv : wInv we τ Q = we τ fun r => intR r fun i => Q (.st (.int (Builtin.bitNot i))) := rfl
@[simp] theorem s_dnew : wDNew n E τ = E.nx (τ.set n (some (.dt []))) := rfl
@[simp] theorem s_dgetT : wDGet n we τ Q = ∃ kvs, τ[n]? = some (some (.dt kvs)) ∧ we τ fun r => ∃ ds ks d, r = .st (.tup ds) ∧ keysD ds = some ks ∧ valD kvs ks = some d ∧ Q (.st d) := rfl
@[simp] theorem s_dnotin : wDNotIn n we τ QB = ∃ kvs, τ[n]? = some (some (.dt kvs)) ∧ we τ fun r => ∃ ds ks, r = .st (.tup ds) ∧ keysD ds = some ks ∧ QB (!(valD kvs ks).isSome) := rfl
@[simp] theorem s_dput : wDPut n wa wb E τ = wb τ fun r => ∃ d, r = .st d ∧ ∃ kvs, τ[n]? = some (some (.dt kvs)) ∧ wa τ fun rk => ∃ ds ks, rk = .st (.tup ds) ∧ keysD ds = some ks ∧ kvs.length < sizeLine ∧ E.nx (τ.set n (some (.dt (putD kvs ks d)))) := rfl
@[simp] theorem s_setIx : wSetIx n wa wb E τ = wb τ fun r => ∃ d, r = .st d ∧ ∃ ds, τ[n]? = some (some (.own ds)) ∧ wa τ fun rk => ∃ k j, rk = .st (.int k) ∧ ixN ds.length k = some j ∧ E.nx (τ.set n (some (.own (ds.set j d)))) := rfl
@[simp] theorem s_delTail : wDelTail n we E τ = ∃ ds, τ[n]? = some (some (.own ds)) ∧ we τ fun r => ∃ k : Nat, r = .st (.int (-(k : Int))) ∧ 0 < k ∧ k ≤ ds.length ∧ E.nx (τ.set n (some (.own (ds.take (ds.length - k))))) := rfl
@[simp] theorem s_jRevL {Q : List D → Prop} : jRevL wr τ Q = wr τ fun rs => ∃ r ds, rs = [r] ∧ lsAny r = some ds ∧ Q ds.reverse := rfl
@[simp] theorem s_jZip {Q : List D → Prop} : jZip wr τ Q = wr τ fun rs => ∃ r r' ds es, rs = [r, r'] ∧ lsAny r = some ds ∧ lsAny r' = some es ∧ Q (zipD ds es) := rfl
@[simp] theorem s_iRev1 {Q : List D → DSt → Prop} : iRev1 wr τ Q = wr τ fun rs => ∃ j : Int, rs = [.st (.int j)] ∧ 0 ≤ j ∧ j < 2 ^ 62 ∧ Q (rngR j.toNat) τ := rfl
@[simp] theorem s_iRng2 {Q : List D → DSt → Prop} : iRng2 wr τ Q = wr τ fun rs => ∃ i j : Int, rs = [.st (.int i), .st (.int j)] ∧ (-(2 ^ 62) ≤ i ∧ i < 2 ^ 62 ∧ -(2 ^ 62) ≤ j ∧ j < 2 ^ 62) ∧ Q (rngD i (j - i).toNat) τ := rfl
@[simp] theorem o_mul2 {k : Int} : mulD (.nw ds) (.st (.int k)) Q = (-(2 ^ 63) ≤ k ∧ k < 2 ^ 63 ∧ ds.length * k.toNat ≤ sizeLine ∧ Q (.nw (List.replicate k.toNat ds).flatten)) := rfl
@[simp] theorem o_sl5 {lo hi : Option Int} : slD (.bw ds) lo hi Q = Q (.nw (cutL ds lo hi)) := rfl
end
theorem comp_map2 {we : WE} {f : D → D → D} {rest : DSt} : ∀ (ps : List (D × D)) (o1 o2 : Option Sl) (Q : List D → Prop), (∀ p ∈ ps, ∀ Q' : R → Prop, Q' (.st (f p.1 p.2)) → we (some (.dat p.1) :: some (.dat p.2) :: rest) Q') →
    Q (ps.map fun p => f p.1 p.2) → compW (gTp 2 (gCn (gNm 0) (gCn (gNm 1) gNl))) tYes we (ps.map fun p => .tup [p.1, p.2]) (o1 :: o2 :: rest) Q
  | [], o1, o2, Q, h, q => q
  | p :: ps, o1, o2, Q, h, q => by
    simp only [List.map_cons, compW]
    simp
    refine h p List.mem_cons_self _ ⟨_, rfl, ?_⟩
    exact comp_map2 ps _ _ _ (fun p hp => h p (List.mem_cons_of_mem _ hp)) q
end TK
end
section
set_option maxRecDepth 100000
namespace TK
open PySem PySem.Spec PyProof.Rows L2
@[simp] theorem wn_none_empty : (Str.ofString "none" == Str.ofString "empty") = false := by decide
@[simp] theorem wn_none_signs : (Str.ofString "none" == Str.ofString "signs") = false := by decide
@[simp] theorem wn_none_then : (Str.ofString "none" == Str.ofString "then") = false := by decide
@[simp] theorem wn_none_or : (Str.ofString "none" == Str.ofString "or") = false := by decide
@[simp] theorem wn_none_and : (Str.ofString "none" == Str.ofString "and") = false := by decide
@[simp] theorem wn_none_not : (Str.ofString "none" == Str.ofString "not") = false := by decide
@[simp] theorem wn_none_many : (Str.ofString "none" == Str.ofString "many") = false := by decide
@[simp] theorem wn_empty_none : (Str.ofString "empty" == Str.ofString "none") = false := by decide
@[simp] theorem wn_empty_signs : (Str.ofString "empty" == Str.ofString "signs") = false := by decide
@[simp] theorem wn_empty_then : (Str.ofString "empty" == Str.ofString "then") = false := by decide
@[simp] theorem wn_empty_or : (Str.ofString "empty" == Str.ofString "or") = false := by decide
@[simp] theorem wn_empty_and : (Str.ofString "empty" == Str.ofString "and") = false := by decide
@[simp] theorem wn_empty_not : (Str.ofString "empty" == Str.ofString "not") = false := by decide
@[simp] theorem wn_empty_many : (Str.ofString "empty" == Str.ofString "many") = false := by decide
@[simp] theorem wn_signs_none : (Str.ofString "signs" == Str.ofString "none") = false := by decide
@[simp] theorem wn_signs_empty : (Str.ofString "signs" == Str.ofString "empty") = false := by decide
@[simp] theorem wn_signs_then : (Str.ofString "signs" == Str.ofString "then") = false := by decide
@[simp] theorem wn_signs_or : (Str.ofString "signs" == Str.ofString "or") = false := by decide
@[simp] theorem wn_signs_and : (Str.ofString "signs" == Str.ofString "and") = false := by decide
@[simp] theorem wn_signs_not : (Str.ofString "signs" == Str.ofString "not") = false := by decide
@[simp] theorem wn_signs_many : (Str.ofString "signs" == Str.ofString "many") = false := by decide
@[simp] theorem wn_then_none : (Str.ofString "then" == Str.ofString "none") = false := by decide
@[simp] theorem wn_then_empty : (Str.ofString "then" == Str.ofString "empty") = false := by decide
@[simp] theorem wn_then_signs : (Str.ofString "then" == Str.ofString "signs") = false := by decide
@[simp] theorem wn_then_or : (Str.ofString "then" == Str.ofString "or") = false := by decide
@[simp] theorem wn_then_and : (Str.ofString "then" == Str.ofString "and") = false := by decide
@[simp] theorem wn_then_not : (Str.ofString "then" == Str.ofString "not") = false := by decide
@[simp] theorem wn_then_many : (Str.ofString "then" == Str.ofString "many") = false := by decide
@[simp] theorem wn_or_none : (Str.ofString "or" == Str.ofString "none") = false := by decide
@[simp] theorem wn_or_empty : (Str.ofString "or" == Str.ofString "empty") = false := by decide
@[simp] theorem wn_or_signs : (Str.ofString "or" == Str.ofString "signs") = false := by decide
@[simp] theorem wn_or_then : (Str.ofString "or" == Str.ofString "then") = false := by decide
@[simp] theorem wn_or_and : (Str.ofString "or" == Str.ofString "and") = false := by decide
@[simp] theorem wn_or_not : (Str.ofString "or" == Str.ofString "not") = false := by decide
@[simp] theorem wn_or_many : (Str.ofString "or" == Str.ofString "many") = false := by decide
@[simp] theorem wn_and_none : (Str.ofString "and" == Str.ofString "none") = false := by decide
@[simp] theorem wn_and_empty : (Str.ofString "and" == Str.ofString "empty") = false := by decide
@[simp] theorem wn_and_signs : (Str.ofString "and" == Str.ofString "signs") = false := by decide
@[simp] theorem wn_and_then : (Str.ofString "and" == Str.ofString "then") = false := by decide
@[simp] theorem wn_and_or : (Str.ofString "and" == Str.ofString "or") = false := by decide
@[simp] theorem wn_and_not : (Str.ofString "and" == Str.ofString "not") = false := by decide
@[simp] theorem wn_and_many : (Str.ofString "and" == Str.ofString "many") = false := by decide
@[simp] theorem wn_not_none : (Str.ofString "not" == Str.ofString "none") = false := by decide
@[simp] theorem wn_not_empty : (Str.ofString "not" == Str.ofString "empty") = false := by decide
@[simp] theorem wn_not_signs : (Str.ofString "not" == Str.ofString "signs") = false := by decide
@[simp] theorem wn_not_then : (Str.ofString "not" == Str.ofString "then") = false := by decide
@[simp] theorem wn_not_or : (Str.ofString "not" == Str.ofString "or") = false := by decide
@[simp] theorem wn_not_and : (Str.ofString "not" == Str.ofString "and") = false := by decide
@[simp] theorem wn_not_many : (Str.ofString "not" == Str.ofString "many") = false := by decide
@[simp] theorem wn_many_none : (Str.ofString "many" == Str.ofString "none") = false := by decide
@[simp] theorem wn_many_empty : (Str.ofString "many" == Str.ofString "empty") = false := by decide
@[simp] theorem wn_many_signs : (Str.ofString "many" == Str.ofString "signs") = false := by decide
@[simp] theorem wn_many_then : (Str.ofString "many" == Str.ofString "then") = false := by decide
@[simp] theorem wn_many_or : (Str.ofString "many" == Str.ofString "or") = false := by decide
@[simp] theorem wn_many_and : (Str.ofString "many" == Str.ofString "and") = false := by decide
@[simp] theorem wn_many_not : (Str.ofString "many" == Str.ofString "not") = false := by decide
noncomputable def kD : Key → D
  | .inl i => .int i
  | .inr x => .str x
theorem keysD_map : ∀ ks : List Key, keysD (ks.map kD) = some ks
  | [] => rfl
  | .inl i :: r => by simp [keysD, keyD, kD, keysD_map r]
  | .inr x :: r => by simp [keysD, keyD, kD, keysD_map r]
noncomputable def rowK (shs : List Sh) : Sh → List Key
  | .none => [.inr "none"]
  | .empty => [.inr "empty"]
  | .signs s => [.inr "signs", .inr s]
  | .thn a b => [.inr "then", .inl (shs.idxOf a : Int), .inl (shs.idxOf b : Int)]
  | .or a b => [.inr "or", .inl (shs.idxOf a : Int), .inl (shs.idxOf b : Int)]
  | .and a b => [.inr "and", .inl (shs.idxOf a : Int), .inl (shs.idxOf b : Int)]
  | .not a => [.inr "not", .inl (shs.idxOf a : Int)]
  | .many a => [.inr "many", .inl (shs.idxOf a : Int)]
noncomputable def rowD (shs : List Sh) (s : Sh) : D := .tup ((rowK shs s).map kD)
noncomputable def tabsD (L : List Nat) (shs : List Sh) : List D := shs.map fun s => .lst (tabD L s)
theorem tabs_at (L : List Nat) {shs : List Sh} {a : Sh} (h : a ∈ shs) : atI (tabsD L shs) (shs.idxOf a : Int) = some (.lst (tabD L a)) := by
  have hlt : shs.idxOf a < shs.length := List.idxOf_lt_length_of_mem h
  refine atI_nat ?_
  rw [tabsD, List.getElem?_map, List.getElem?_eq_getElem hlt, List.getElem_idxOf hlt]
  rfl
end TK
end
section
set_option maxRecDepth 100000
namespace TK
open PySem PySem.Spec PyProof.Rows L2
noncomputable def okK (shs : List Sh) (s : Sh) : Prop := ∀ c ∈ s.kids, c ∈ shs
noncomputable def Clo (shs : List Sh) : Prop := ∀ i s, shs[i]? = some s → okK (shs.take i) s
structure AddOk (s : Sh) (l l' : List Sh) : Prop where
  sub : ∃ m, l' = l ++ m
  mem : s ∈ l'
  len : l'.length ≤ l.length + s.size
  clo : Clo l → Clo l'
  el : ∀ x ∈ l', x ∈ l ∨ x.size ≤ s.size
end TK
end
section
set_option maxRecDepth 100000
namespace TK
open PySem PySem.Spec PyProof.Rows L2
open Builtin Builtin.Str in
theorem slice_of {x : Str} {l u : Option Int} {a b : Nat} (hab : a ≤ b) (hb : b ≤ x.length) (h : strSliceIndices l u 1 x.length = (List.range (b - a)).map (fun k => a + k)) : (Txt.slice x l u).cps.toList = (x.cps.toList.drop a).take (b - a) := by
  have hx : x.length = x.cps.toList.length := by simp [Str.length]
  unfold Txt.slice
  rw [h]
  split
  · rename_i hc
    simp at hc
    have e : a = 0 := by omega
    subst e
    rw [List.drop_zero, List.take_of_length_le (by rw [← hx]; omega)]
  · have := StrLaws.picks x.cps.toList (b - a) a (by rw [← hx]; omega)
    simp only [Array.getElem?_toList] at this
    exact this
open Builtin Builtin.Str in
theorem idx_none_lo (u : Option Int) (n : Nat) : strSliceIndices none u 1 n = strSliceIndices (some ((0 : Nat) : Int)) u 1 n := by
  unfold strSliceIndices
  simp
  have e : Max.max (0 : Int) (Min.min 0 (n : Int)) = 0 := by omega
  rw [e]
open Builtin Builtin.Str in
theorem idx_none_hi (l : Option Int) (n : Nat) : strSliceIndices l none 1 n = strSliceIndices l (some (n : Int)) 1 n := by
  unfold strSliceIndices
  have h : ¬ ((n : Int) < 0) := by omega
  simp only [h, if_false, show (1 : Int) > 0 by decide, if_true]
  congr 1
  omega
theorem slice_to {x : Str} {k : Nat} (h : k ≤ x.length) : (Txt.slice x none (some (k : Int))).cps.toList = x.cps.toList.take k := by
  rw [slice_of (a := 0) (b := k) (Nat.zero_le _) h (by rw [idx_none_lo]; exact StrLaws.strSliceIndices_plain (Nat.zero_le _) h)]
  simp
theorem slice_from {x : Str} {k : Nat} (h : k ≤ x.length) : (Txt.slice x (some (k : Int)) none).cps.toList = x.cps.toList.drop k := by
  rw [slice_of (a := k) (b := x.length) h (Nat.le_refl _) (by rw [idx_none_hi]; exact StrLaws.strSliceIndices_plain h (Nat.le_refl _))]
  rw [List.take_of_length_le]
  simp [Str.length]
theorem slice_mid {x : Str} {a b : Nat} (hab : a ≤ b) (h : b ≤ x.length) : (Txt.slice x (some (a : Int)) (some (b : Int))).cps.toList = (x.cps.toList.drop a).take (b - a) :=
  slice_of hab h (StrLaws.strSliceIndices_plain hab h)
theorem str_of {x y : Str} (h : x.cps.toList = y.cps.toList) : x = y := by
  cases x; cases y
  congr 1
  exact Array.toList_inj.mp h
end TK
end
section
set_option maxRecDepth 100000
namespace TK
open PySem PySem.Spec PyProof.Rows L2
end TK
end
section
set_option maxRecDepth 100000
set_option maxHeartbeats 1000000
namespace TK
open PySem PySem.Spec PyProof.Rows L2
section
variable {X : Cx} {H0 : Hp} {a : Expr} {p pos : Pos} {wr : WA}
noncomputable def iEnum (wr : WA) : WI := fun τ Q => wr τ fun rs => ∃ ds, rs = [.st (.lst ds)] ∧ Q (enmD ds) τ
end
section
variable {τ : DSt} {wr : WA} {QB : Bool → Prop}
@[simp] theorem s_iEnum {Q : List D → DSt → Prop} : iEnum wr τ Q = wr τ fun rs => ∃ ds, rs = [.st (.lst ds)] ∧ Q (enmD ds) τ := rfl
@[simp] theorem s_jRng2 {Q : List D → Prop} : jRng2 wr τ Q = wr τ fun rs => ∃ i j : Int, rs = [.st (.int i), .st (.int j)] ∧ (-(2 ^ 62) ≤ i ∧ i < 2 ^ 62 ∧ -(2 ^ 62) ≤ j ∧ j < 2 ^ 62) ∧ Q (rngD i (j - i).toNat) := rfl
@[simp] theorem o_isN {n : Bool} {r r' : R} : isND n r r' QB = ∃ d, r.d = some d ∧ r' = .st .non ∧ QB (match d with | .non => !n | _ => n) := rfl
end
end TK
end
section
set_option maxRecDepth 100000
namespace TK
open PySem PySem.Spec PyProof.Rows L2
end TK
end
section
set_option maxRecDepth 100000
namespace TK
open PySem PySem.Spec PyProof.Rows L2
noncomputable def cD : Sum Int Str → D
  | .inl i => .int i
  | .inr x => .str x
noncomputable def cV : Sum Int Str → V
  | .inl i => .int i
  | .inr x => .str x
noncomputable def lkc (kvs : List (Str × Sum Int Str)) (x : Str) : Option (Sum Int Str) := (kvs.find? fun kv => decide (kv.1 = x)).map (·.2)
theorem valV_lkc (x : Str) : ∀ kvs : List (Str × Sum Int Str), valV (kvs.map fun kv => ((Sum.inr kv.1 : Key), cV kv.2)) (.inr x) = (lkc kvs x).map cV
  | [] => rfl
  | kv :: r => by
    have ih := valV_lkc x r
    by_cases e : kv.1 = x
    · rw [List.map_cons, valV_pos (by rw [e]), lkc, List.find?_cons, decide_eq_true e]; rfl
    · have ne : ¬ (Sum.inr kv.1 : Key) = Sum.inr x := fun z => e (Sum.inr.inj z)
      rw [List.map_cons, valV_neg ne, ih, lkc, lkc, List.find?_cons, decide_eq_false e]
section
variable {X : Cx} {H0 : Hp} {e : Expr} {we : WE} {pos p p2 : Pos}
structure DispC (X : Cx) (keys : List (Option Expr)) (values : List Expr) (pos : Pos) (kvs : List (Str × Sum Int Str)) (trs : List (TE × TE)) : Prop where
  pps : PPs X pos keys values trs
  rd : ∀ σ H Q, Q (kvs.map fun kv => (V.str kv.1, cV kv.2)) H → tPairs trs σ H Q
  all : keys.all (·.isSome) = true
  len : keys.length = values.length
theorem DispC.nil : DispC X [] [] pos [] [] := ⟨pps_nil, fun _ _ _ h => h, rfl, rfl⟩
theorem DispC.str {keys : List (Option Expr)} {values : List Expr} {kvs : List (Str × Sum Int Str)} {trs : List (TE × TE)} {x y : Str} {j j' : Nat} (h : DispC X keys values pos kvs trs) :
    DispC X (some (.Constant (.str x) j p) :: keys) (.Constant (.str y) j' p2 :: values) pos ((x, .inr y) :: kvs) ((tC (.str x), tC (.str y)) :: trs) :=
  ⟨pps_cons pe_str pe_str h.pps, fun σ H Q q => h.rd σ H _ q, by simpa using h.all, by simp [h.len]⟩
theorem merge_putC : ∀ (l : List (Str × Sum Int Str)) (acc : List (Key × V)), ((acc.map (·.1)) ++ l.map (fun kv => (Sum.inr kv.1 : Key))).Nodup → mergeK acc (l.map fun kv => ((Sum.inr kv.1 : Key), cV kv.2)) = acc ++ l.map fun kv => ((Sum.inr kv.1 : Key), cV kv.2)
  | [], acc, _ => by simp [mergeK]
  | kv :: r, acc, nd => by
    have hn : valV acc (Sum.inr kv.1) = none := by
      cases e : valV acc (Sum.inr kv.1 : Key) with
      | none => rfl
      | some v =>
        have h1 : (acc.any fun p => decide (p.1 = (Sum.inr kv.1 : Key))) = true := by rw [valV_any, e]; rfl
        obtain ⟨p, hp, h2⟩ := List.any_eq_true.mp h1
        have h2 : p.1 = Sum.inr kv.1 := of_decide_eq_true h2
        exact absurd (List.nodup_append.mp nd).2.2 (fun z => z p.1 (List.mem_map.mpr ⟨p, hp, rfl⟩) (Sum.inr kv.1) (by simp) h2)
    show mergeK (putK acc (Sum.inr kv.1) (cV kv.2)) (r.map _) = _
    rw [putK_new _ hn, merge_putC r _ (by simpa using nd), List.append_assoc]
    rfl
noncomputable def wDsub (kvs : List (Str × Sum Int Str)) (we : WE) : WE := fun τ Q => we τ fun r => strR r fun k => ∃ c, lkc kvs k = some c ∧ Q (.st (cD c))
theorem isr_c {K : PySem.W.Frag} {H0 H : Hp} (c : Sum Int Str) : IsR K H0 H (.st (cD c)) (cV c) := by
  cases c with
  | inl i => exact isr_int
  | inr x => exact isr_str
theorem DE.dsub {keys : List (Option Expr)} {values : List Expr} {kvs : List (Str × Sum Int Str)} {trs : List (TE × TE)} {dpos : Pos} (hu : X.A.units + 1 < cLine) (hd : DispC X keys values dpos kvs trs) (h0 : keys ≠ []) (h15 : kvs.length ≤ 15) (hk : keys.length ≤ 15) (nd : (kvs.map (·.1)).Nodup) (he : DE X H0 e we) (hs : NoSl e) :
    DE X H0 (.Subscript (.Dict keys values dpos) e pos) (wDsub kvs we) where
  mono := fun τ P Q g h => he.mono τ _ _ (fun r h => by
    obtain ⟨k, rfl, c, h1, h⟩ := strR_of h
    exact ⟨c, h1, g _ h⟩) h
  pe := peW (pe_dget hu (pe_disp hd.pps hd.all hd.len h0 hk) he.pe hs) fun σ H Q ⟨τ, hR, h⟩ => by
    intro q hq
    refine hd.rd σ _ _ ⟨upd_same, kvs.map (fun kv => ((Sum.inr kv.1 : Key), cV kv.2)), by simp [kV], by simpa using h15, ?_⟩
    have nd' : (kvs.map fun kv => (Sum.inr kv.1 : Key)).Nodup := by
      have : kvs.map (fun kv => (Sum.inr kv.1 : Key)) = (kvs.map (·.1)).map Sum.inr := by rw [List.map_map]; rfl
      rw [this]
      exact List.pairwise_map.mpr (nd.imp fun h z => h (Sum.inr.inj z))
    rw [merge_putC kvs [] (by simpa using nd'), List.nil_append, upd_upd]
    have sm : Same H (upd H q (.dK (kvs.map fun kv => ((Sum.inr kv.1 : Key), cV kv.2)))) := same_new hq _
    refine ⟨τ, hR.mono sm, he.mono τ _ _ (fun r h v H1 s1 ir => ?_) h⟩
    obtain ⟨k, rfl, c, h1, h⟩ := strR_of h
    cases (show v = .str k from ir)
    refine ⟨q, cV c, rfl, ?_, h _ _ (sm.trans s1) (isr_c c)⟩
    have g := DGet.k (k := Sum.inr k) (s1 _ _ upd_same)
    rw [valV_lkc, h1] at g
    exact g
end
@[simp] theorem s_dsub {we : WE} {τ : DSt} {Q : R → Prop} {kvs : List (Str × Sum Int Str)} : wDsub kvs we τ Q = we τ fun r => strR r fun k => ∃ c, lkc kvs k = some c ∧ Q (.st (cD c)) := rfl
end TK
end
section
set_option maxRecDepth 100000
set_option maxHeartbeats 1000000
namespace TK
open PySem PySem.Spec PyProof.Rows L2
theorem KVS.look {K : PySem.W.Frag} {H : Hp} {f : Str} : ∀ {fs : List (Str × D)} {vs : List (Str × V)}, KVS K H fs vs → (fs.lookup f = none ∧ vs.lookup f = none) ∨ ∃ d v, fs.lookup f = some d ∧ vs.lookup f = some v ∧ IsS K H d v
  | [], vs, h => by unfold KVS at h; subst h; exact .inl ⟨rfl, rfl⟩
  | (g, d) :: fs, vs, h => by
    unfold KVS at h
    obtain ⟨v, r, rfl, iv, h⟩ := h
    have ih := KVS.look (f := f) h
    rw [List.lookup_cons, List.lookup_cons]
    cases e : f == g with
    | true => exact .inr ⟨d, v, rfl, rfl, iv⟩
    | false => exact ih
noncomputable def putFD (f : Str) (d : D) : List (Str × D) → List (Str × D)
  | [] => [(f, d)]
  | (g, x) :: r => if g = f then (g, d) :: r else (g, x) :: putFD f d r
theorem KVS.putF {K : PySem.W.Frag} {H : Hp} {f : Str} {d : D} {v : V} (q : IsS K H d v) : ∀ {fs : List (Str × D)} {vs : List (Str × V)}, KVS K H fs vs → KVS K H (putFD f d fs) (L2.putF f v vs)
  | [], vs, h => by unfold KVS at h; subst h; exact ⟨v, [], rfl, q, rfl⟩
  | (g, x) :: fs, vs, h => by
    unfold KVS at h
    obtain ⟨u, r, rfl, iv, h⟩ := h
    unfold putFD L2.putF
    by_cases e : g = f
    · rw [if_pos e, if_pos e]; exact ⟨v, r, rfl, q, h⟩
    · rw [if_neg e, if_neg e]; exact ⟨u, _, rfl, iv, KVS.putF q h⟩
theorem KVS.len' {K : PySem.W.Frag} {H : Hp} : ∀ {fs : List (Str × D)} {vs : List (Str × V)}, KVS K H fs vs → fs.length = vs.length
  | [], vs, h => by unfold KVS at h; subst h; rfl
  | (g, x) :: fs, vs, h => by
    unfold KVS at h
    obtain ⟨u, r, rfl, iv, h⟩ := h
    rw [List.length_cons, List.length_cons, KVS.len' h]
noncomputable def SameX (a : Addr) (H H' : Hp) : Prop := ∀ b o, b ≠ a → H b = some o → H' b = some o
noncomputable def hid (a : Addr) (H : Hp) : Hp := fun b => if b = a then none else H b
theorem hid_same {a : Addr} {H : Hp} : hid a H a = none := if_pos rfl
theorem hid_ne {a b : Addr} {H : Hp} (h : b ≠ a) : hid a H b = H b := if_neg h
theorem Kp.sx {a C dx : Addr} {vs : List (Str × V)} {H H' : Hp} (sx : SameX a H H') (h : H a = some (.ins C dx vs)) : Kp H H' :=
  ⟨fun c ys q => sx c _ (ne_of q h (by intro z; cases z)) q, fun c ob u q => sx c _ (ne_of q h (by intro z; cases z)) q⟩
theorem sameX_of {a : Addr} {H H' : Hp} (s : Same (hid a H) H') : SameX a H H' := fun b o hb h => s b o (by rw [hid_ne hb]; exact h)
theorem Rep.insAt {K : PySem.W.Frag} {H0 H : Hp} {τ : DSt} {σ : St} {i : Nat} {a C : Addr} {fs : List (Str × D)} (hR : Rep K H0 τ σ H) (e1 : τ[i]? = some (some (.ins a C fs))) :
    σ[i]? = some (some (.ref a)) ∧ H0 a = none ∧ ∃ dx vs, H a = some (.ins C dx vs) ∧ KVS K H fs vs := by
  obtain ⟨v, hv, rfl, h0, dx, vs, ha, kv⟩ := hR.here i _ e1
  exact ⟨hv, h0, dx, vs, ha, kv⟩
theorem Rep.mutX {K : PySem.W.Frag} {H0 H H' : Hp} {τ : DSt} {σ : St} {i : Nat} {a C : Addr} {fs fs' : List (Str × D)} (hR : Rep K H0 τ σ H) (e1 : τ[i]? = some (some (.ins a C fs))) (sx : SameX a H H')
    (ha' : ∃ dx vs, H' a = some (.ins C dx vs) ∧ KVS K H' fs' vs) : Kp H H' ∧ Rep K H0 (τ.set i (some (.ins a C fs'))) σ H' := by
  obtain ⟨hv, h0, dx, vs, ha, kv⟩ := hR.insAt e1
  have kp : Kp H H' := Kp.sx sx ha
  have hl : i < τ.length := by
    rcases Nat.lt_or_ge i τ.length with h | h
    · exact h
    · rw [List.getElem?_eq_none_iff.mpr h] at e1; cases e1
  have oldE : ∀ (j : Nat) (t : Sl), (τ.set i (some (.ins a C fs')))[j]? = some (some t) → j ≠ i → τ[j]? = some (some t) := fun j t e hj => by rw [List.getElem?_set_ne (fun z => hj z.symm)] at e; exact e
  have mutAt : ∀ (j : Nat) (t : Sl), (τ.set i (some (.ins a C fs')))[j]? = some (some t) → t.mut = true → ∃ t', τ[j]? = some (some t') ∧ t'.mut = true := fun j t e mm => by
    by_cases hj : j = i
    · subst hj; exact ⟨_, e1, rfl⟩
    · exact ⟨t, oldE j t e hj, mm⟩
  refine ⟨kp, by rw [List.length_set]; exact hR.len, fun b ob hb => ?_, fun j t e => ?_, fun j k t u v hne e2 e3 m1 m2 q1 q2 => ?_⟩
  · exact sx b ob (ne_of_none hb h0) (hR.same b ob hb)
  · by_cases hj : j = i
    · subst hj
      rw [get_set_eq hl] at e; cases e
      exact ⟨_, hv, rfl, h0, ha'⟩
    · have e := oldE j t e hj
      obtain ⟨v, q, r⟩ := hR.here j t e
      refine ⟨v, q, ?_⟩
      have ap : t.mut = true → v ≠ .ref a := fun mm z => by
        subst z
        exact hR.apart i j _ t (.ref a) (fun z => hj z.symm) e1 e rfl mm hv q
      cases t with
      | dat d => exact IsS.mono kp _ _ r
      | own es => obtain ⟨b, ys, e, n, q, t⟩ := r; exact ⟨b, ys, e, n, sx _ _ (fun z => ap rfl (by rw [e, z])) q, t.mono kp _ _⟩
      | bor es => obtain ⟨b, ys, e, q, t⟩ := r; exact ⟨b, ys, e, q, t.mono kp _ _⟩
      | dk es => obtain ⟨b, ys, e, n, q, t⟩ := r; exact ⟨b, ys, e, n, sx _ _ (fun z => ap rfl (by rw [e, z])) q, t.mono kp _ _⟩
      | dt es => obtain ⟨b, ys, e, n, q, t⟩ := r; exact ⟨b, ys, e, n, sx _ _ (fun z => ap rfl (by rw [e, z])) q, t.mono kp _ _⟩
      | ob _ => exact r
      | ins _ _ _ => obtain ⟨e, n, dx, ys, q, t⟩ := r; exact ⟨e, n, dx, ys, sx _ _ (fun z => ap rfl (by rw [e, z])) q, t.mono kp _ _⟩
  · obtain ⟨s1, e2', m1'⟩ := mutAt j t e2 m1
    obtain ⟨t1, e3', m2'⟩ := mutAt k u e3 m2
    exact hR.apart j k s1 t1 v hne e2' e3' m1' m2' q1 q2
section
variable {X : Cx} {H0 : Hp} {a b e o value : Expr} {es : List Expr} {pos pos' tpos cpos apos p : Pos} {wa wb we : WE} {f m x : Str} {C : Addr}
noncomputable def wFld (C : Addr) (i : Nat) (f : Str) : WE := fun τ Q => ∃ a fs d, τ[i]? = some (some (.ins a C fs)) ∧ fs.lookup f = some d ∧ Q (.st d)
theorem DE.fld {i : Nat} (hv : PE X e (tVar i)) (c : Cls X.K C) (n : NoAttr X.K C f) (hb : attributeBase e f X.env (eval e X.env) = eval e X.env := by rfl) : DE X H0 (.Attribute e f pos) (wFld C i f) where
  mono := fun τ P Q g ⟨a, fs, d, h1, h2, h3⟩ => ⟨a, fs, d, h1, h2, g _ h3⟩
  pe := peW (pe_fld hv hb) fun σ H Q ⟨τ, hR, a, fs, d, h1, h2, h3⟩ => by
    obtain ⟨hv, h0, dx, vs, ha, kv⟩ := hR.insAt h1
    rcases KVS.look (f := f) kv with ⟨n1, _⟩ | ⟨d', v', n1, n2, n3⟩
    · rw [h2] at n1; cases n1
    · rw [h2] at n1; cases n1
      exact ⟨_, hv, a, C, dx, vs, v', rfl, ha, c, n, n2, h3 v' H (Same.refl H) n3⟩
noncomputable def wFldS (C : Addr) (i : Nat) (f : Str) (we : WE) : WS := fun E τ => we τ fun r => fzR r fun d => ∃ a fs, τ[i]? = some (some (.ins a C fs)) ∧ fs.length < 1000 ∧ E.nx (τ.set i (some (.ins a C (putFD f d fs))))
theorem DS.fld {i : Nat} (hv : PE X o (tVar i)) (he : DE X H0 value we) (c : Cls X.K C) (n : NoAttr X.K C f) (hs : swapsWith value (some (.Attribute o f pos')) pos.line X.env = pure false := by rfl) :
    DS X H0 (.Assign [.Attribute o f pos'] value pos) (wFldS C i f we) where
  mono := fun τ E F le h => he.mono τ _ _ (fun r h => by
    cases r <;> first | exact h.elim | (obtain ⟨a, fs, h1, h2, h3⟩ := h; exact ⟨a, fs, h1, h2, le.nx _ h3⟩)) h
  ps := psW (ps_fld hv he.fz.pe hs) fun D σ H ⟨τ, hR, h⟩ => ⟨τ, hR, he.mono τ _ _ (fun r h => by
    have key : ∀ d, (∃ a fs, τ[i]? = some (some (.ins a C fs)) ∧ fs.length < 1000 ∧ (liftD X.K H0 H D).nx (τ.set i (some (.ins a C (putFD f d fs))))) → ∀ v H', Same H H' → IsR X.K H H' (.st d) v →
        tVar i σ H' fun x H2 => ∃ a C dx fs, x = .ref a ∧ H2 a = some (.ins C dx fs) ∧ Cls X.K C ∧ NoAttr X.K C f ∧ fs.length < 1000 ∧ D.nx σ (upd H2 a (.ins C dx (L2.putF f v fs))) := by
      intro d ⟨a, fs, h1, h2, h3⟩ v H1 s1 ir
      have hR1 := hR.mono s1
      obtain ⟨hv, h0, dx, vs, ha, kv⟩ := hR1.insAt h1
      refine ⟨_, hv, a, C, dx, vs, rfl, ha, c, n, by rw [← kv.len']; exact h2, ?_⟩
      have sx : SameX a H1 (upd H1 a (.ins C dx (L2.putF f v vs))) := fun b o hb h => by rw [upd_ne hb]; exact h
      have kp := Kp.sx sx ha
      obtain ⟨_, hR2⟩ := hR1.mutX (fs' := putFD f d fs) h1 sx ⟨dx, _, upd_same, KVS.putF (IsS.mono kp _ _ ir) (kv.mono kp _ _)⟩
      exact h3 _ _ ((Kp.of s1).trans kp) hR2
    cases r with
    | st d => exact key d h
    | nw ds => exact key (.lst ds) h
    | _ => exact h.elim) h⟩
noncomputable def wFldAug (C : Addr) (i : Nat) (f : Str) (g : Int → Int → Int) (we : WE) : WS := fun E τ => ∃ a fs k, τ[i]? = some (some (.ins a C fs)) ∧ fs.lookup f = some (.int k) ∧ fs.length < 1000 ∧ we τ fun r => intR r fun j => E.nx (τ.set i (some (.ins a C (putFD f (.int (g k j)) fs))))
theorem DS.fldaug {i : Nat} {op : Operator} {g : Int → Int → Int} (hv : PE X o (tVar i)) (he : DE X H0 value we) (hop : InOp X op fun x y H Q => ∃ i j, x = .int i ∧ y = .int j ∧ Q (.int (g i j)) H) (c : Cls X.K C) (n : NoAttr X.K C f) :
    DS X H0 (.AugAssign (.Attribute o f tpos) op value pos) (wFldAug C i f g we) where
  mono := fun τ E F le ⟨a, fs, k, h1, h2, h3, h⟩ => ⟨a, fs, k, h1, h2, h3, he.mono τ _ _ (fun r h => by obtain ⟨j, rfl, h⟩ := intR_of h; exact le.nx _ h) h⟩
  ps := psW (ps_fldaug hv he.pe hop) fun D σ H ⟨τ, hR, a, fs, k, h1, h2, h3, h⟩ => by
    obtain ⟨hv, h0, dx, vs, ha, kv⟩ := hR.insAt h1
    rcases KVS.look (f := f) kv with ⟨n1, _⟩ | ⟨d', v', n1, n2, n3⟩
    · rw [h2] at n1; cases n1
    rw [h2] at n1; cases n1
    cases (show v' = .int k from n3)
    refine ⟨_, hv, a, C, dx, vs, _, rfl, ha, c, n, n2, τ, hR, he.mono τ _ _ (fun r h v H1 s1 ir => ?_) h⟩
    obtain ⟨j, rfl, h⟩ := intR_of h
    cases (show v = .int j from ir)
    refine ⟨k, j, rfl, rfl, dx, vs, s1 _ _ ha, by rw [← kv.len']; exact h3, ?_⟩
    have hR1 := hR.mono s1
    have sx : SameX a H1 (upd H1 a (.ins C dx (L2.putF f (.int (g k j)) vs))) := fun b o hb h => by rw [upd_ne hb]; exact h
    have kp := Kp.sx sx (s1 _ _ ha)
    obtain ⟨_, hR2⟩ := hR1.mutX (fs' := putFD f (.int (g k j)) fs) h1 sx ⟨dx, _, upd_same, KVS.putF (IsS.s_int (K := X.K)) ((kv.mono (Kp.of s1) _ _).mono kp _ _)⟩
    exact h _ _ ((Kp.of s1).trans kp) hR2
theorem in_addD : InOp X .Add fun x y H Q => ∃ i j, x = .int i ∧ y = .int j ∧ Q (.int (i + j)) H := in_add
theorem in_subD : InOp X .Sub fun x y H Q => ∃ i j, x = .int i ∧ y = .int j ∧ Q (.int (i - j)) H := in_sub
noncomputable abbrev WM := DSt → (D → DSt → Prop) → Prop
noncomputable def liftM (K : PySem.W.Frag) (H0 : Hp) (w : WM) : TE := fun σ H Q => ∃ τ, Rep K H0 τ σ H ∧ w τ fun d τ' => ∀ v H', Kp H H' → Rep K H0 τ' σ H' → IsS K H' d v → Q v H'
structure DM (X : Cx) (H0 : Hp) (e : Expr) (w : WM) : Prop where
  mono : ∀ (τ : DSt) (P Q : D → DSt → Prop), (∀ d τ, P d τ → Q d τ) → w τ P → w τ Q
  pe : PE X e (liftM X.K H0 w)
noncomputable def mOf (we : WE) : WM := fun τ Q => we τ fun r => fzR r fun d => Q d τ
theorem fzR_mono {r : R} {P Q : D → Prop} (f : ∀ d, P d → Q d) (h : fzR r P) : fzR r Q := by
  cases r <;> first | exact f _ h | exact h
theorem DM.of (he : DE X H0 e we) : DM X H0 e (mOf we) where
  mono := fun τ P Q f h => he.mono τ _ _ (fun r h => fzR_mono (fun d h => f d τ h) h) h
  pe := peW he.fz.pe fun σ H Q ⟨τ, hR, h⟩ => ⟨τ, hR, he.mono τ _ _ (fun r h => fzR_mono (fun d h v H' s1 ir => h v H' (Kp.of s1) (hR.mono s1) ir) h) h⟩
noncomputable abbrev WMA := DSt → (List D → DSt → Prop) → Prop
noncomputable def liftMA (K : PySem.W.Frag) (H0 : Hp) (w : WMA) : TA := fun σ H Q => ∃ τ, Rep K H0 τ σ H ∧ w τ fun ds τ' => ∀ vs H', Kp H H' → Rep K H0 τ' σ H' → AllS K H' ds vs → Q vs H'
structure DMA (X : Cx) (H0 : Hp) (es : List Expr) (w : WMA) : Prop where
  mono : ∀ (τ : DSt) (P Q : List D → DSt → Prop), (∀ d τ, P d τ → Q d τ) → w τ P → w τ Q
  pa : PA X es (liftMA X.K H0 w)
noncomputable def maNil : WMA := fun τ Q => Q [] τ
noncomputable def maCons (w : WM) (wr : WMA) : WMA := fun τ Q => w τ fun d τ1 => wr τ1 fun ds τ2 => Q (d :: ds) τ2
theorem DMA.nil : DMA X H0 [] maNil where
  mono := fun τ P Q f h => f _ _ h
  pa := paW pa_nil fun σ H Q ⟨τ, hR, h⟩ => h [] H (Kp.refl H) hR AllS.nil
theorem DMA.cons {w : WM} {wr : WMA} (he : DM X H0 e w) (hr : DMA X H0 es wr) (hs : starEach (e :: es) X.env = (false, eval e X.env) :: starEach es X.env := by rfl) : DMA X H0 (e :: es) (maCons w wr) where
  mono := fun τ P Q f h => he.mono τ _ _ (fun d τ1 h => hr.mono τ1 _ _ (fun ds τ2 h => f _ _ h) h) h
  pa := paW (pa_cons he.pe hr.pa hs) fun σ H Q ⟨τ, hR, h⟩ => ⟨τ, hR, he.mono τ _ _ (fun d τ1 h v H1 k1 hR1 iv => ⟨τ1, hR1, hr.mono τ1 _ _ (fun ds τ2 h vs H2 k2 hR2 al => h (v :: vs) H2 (k1.trans k2) hR2 (AllS.cons (IsS.mono k2 _ _ iv) al)) h⟩) h⟩
noncomputable def mTup (wr : WMA) : WM := fun τ Q => wr τ fun ds τ' => ds.length ≤ sizeLine ∧ Q (.tup ds) τ'
theorem DM.tup {k : Nat} {wr : WMA} (h : DMA X H0 es wr) : DM X H0 (.Tuple es k pos) (mTup wr) where
  mono := fun τ P Q f h' => h.mono τ _ _ (fun ds τ' ⟨l, q⟩ => ⟨l, f _ _ q⟩) h'
  pe := peW (pe_tup h.pa) fun σ H Q ⟨τ, hR, h'⟩ => ⟨τ, hR, h.mono τ _ _ (fun ds τ' ⟨l, q⟩ vs H1 k1 hR1 al => by
    refine ⟨by rw [← al.length]; exact l, fun p hp => q _ _ (k1.trans (Kp.of (same_new hp _))) (hR1.mono (same_new hp _)) (IsS.s_tup upd_same (al.mono (Kp.of (same_new hp _)) _ _))⟩) h'⟩
noncomputable def wSetM (i : Nat) (w : WM) : WS := fun E τ => w τ fun d τ' => E.nx (τ'.set i (some (.dat d)))
theorem DS.setM {i : Nat} {w : WM} (he : DM X H0 e w) (hN : X.N.Nodup) (hi : X.N[i]? = some x) (hx : Loc X.env.scope x) (hs : swapsWith e (some (.Name x pos')) pos.line X.env = pure false := by rfl)
    (hf : X.fn x = true ∨ X.env.scope.names.lookup x = some .local := by first | exact .inl rfl | exact .inr rfl | assumption) : DS X H0 (.Assign [.Name x pos'] e pos) (wSetM i w) where
  mono := fun τ E F le h => he.mono τ _ _ (fun d τ' h => le.nx _ h) h
  ps := psW (ps_set hN hi hx he.pe hs hf) fun D σ H ⟨τ, hR, h⟩ => ⟨τ, hR, he.mono τ _ _ (fun d τ' h v H1 k1 hR1 ir => h _ _ k1 (hR1.set (s := .dat d) ir fun m => by cases m)) h⟩
noncomputable def wExprM (w : WM) : WS := fun E τ => w τ fun _ τ' => E.nx τ'
theorem DS.exprM {w : WM} (he : DM X H0 e w) (hs : swapsWith e none pos.line X.env = pure false := by rfl) : DS X H0 (.Expr e pos) (wExprM w) where
  mono := fun τ E F le h => he.mono τ _ _ (fun d τ' h => le.nx _ h) h
  ps := psW (ps_expr he.pe hs) fun D σ H ⟨τ, hR, h⟩ => ⟨τ, hR, he.mono τ _ _ (fun d τ' h v H1 k1 hR1 ir => h σ H1 k1 hR1) h⟩
noncomputable def wRetM (C : Addr) (w : WM) : WS := fun E τ => w τ fun d τ' => ∃ a fs, τ'[0]? = some (some (.ins a C fs)) ∧ E.rt (.ms a C d fs)
theorem DS.retM {w : WM} (he : DM X H0 e w) : DS X H0 (.Return (some e) pos) (wRetM C w) where
  mono := fun τ E F le h => he.mono τ _ _ (fun d τ' ⟨a, fs, h1, h⟩ => ⟨a, fs, h1, le.rt _ h⟩) h
  ps := psW (ps_ret he.pe) fun D σ H ⟨τ, hR, h⟩ => ⟨τ, hR, he.mono τ _ _ (fun d τ' ⟨a, fs, h1, h⟩ v H1 k1 hR1 ir => by
    obtain ⟨hv, h0, dx, vs, ha, kv⟩ := hR1.insAt h1
    exact h v H1 hR1.same ⟨ir, dx, vs, ha, kv⟩) h⟩
noncomputable abbrev WMT := DSt → (Bool → DSt → Prop) → Prop
noncomputable def liftMT (K : PySem.W.Frag) (H0 : Hp) (w : WMT) : TT := fun σ H Q => ∃ τ, Rep K H0 τ σ H ∧ w τ fun b τ' => ∀ H', Kp H H' → Rep K H0 τ' σ H' → Q b H'
structure DMT (X : Cx) (H0 : Hp) (e : Expr) (w : WMT) : Prop where
  mono : ∀ (τ : DSt) (P Q : Bool → DSt → Prop), (∀ d τ, P d τ → Q d τ) → w τ P → w τ Q
  pt : PT X e (liftMT X.K H0 w)
noncomputable def mCmp (g : R → R → (Bool → Prop) → Prop) (w : WM) (wb : WE) : WMT := fun τ Q => w τ fun d τ' => wb τ' fun y => g (.st d) y fun k => Q k τ'
theorem DMT.cmp {op : CmpOp} {g : R → R → (Bool → Prop) → Prop} {w : WM} (ho : CmpD X op g) (mg : Mono2 g) (ha : DM X H0 a w) (hb : DE X H0 b wb) (hm : behindInMarks op b = false) : DMT X H0 (.Compare a [op] [b] pos) (mCmp g w wb) where
  mono := fun τ P Q f h => ha.mono τ _ _ (fun d τ' h => hb.mono τ' _ _ (fun y h => mg _ _ _ _ (fun k h => f _ _ h) h) h) h
  pt := ptW (pt_cmpR ho ha.pe hb.pe hm) fun σ H Q ⟨τ, hR, h⟩ => ⟨τ, hR, ha.mono τ _ _ (fun d τ' h v H1 k1 hR1 iv => ⟨τ', hR1, hb.mono τ' _ _ (fun y h u H2 s2 iu => by
    refine ⟨.st d, y, IsS.mono (Kp.of s2) _ _ iv, iu.v, mg _ _ _ _ (fun k h => ⟨k, rfl, h H2 (k1.trans (Kp.of s2)) (hR1.mono s2)⟩) h⟩) h⟩) h⟩
noncomputable def wIfM (t : WMT) (ws wt : WS) : WS := fun E τ => t τ fun k τ' => if k = true then ws E τ' else wt E τ'
theorem DS.ifeM {c : Expr} {tc : WMT} {sa sb : List Stmt} {ws wt : WS} (hc : DMT X H0 c tc) (ha : DSs X H0 sa ws) (hb : DSs X H0 sb wt) : DS X H0 (.If c sa sb pos) (wIfM tc ws wt) where
  mono := fun τ E F le h => hc.mono τ _ _ (fun k τ' h => ite_imp (ha.mono τ' E F le) (hb.mono τ' E F le) h) h
  ps := psW (ps_if hc.pt ha.ps hb.ps) fun D σ H ⟨τ, hR, h⟩ => ⟨τ, hR, hc.mono τ _ _ (fun k τ' h H1 k1 hR1 =>
    ite_imp (fun h => ⟨τ', hR1, ha.mono τ' _ _ (liftD_le k1) h⟩) (fun h => ⟨τ', hR1, hb.mono τ' _ _ (liftD_le k1) h⟩) h) h⟩
end
noncomputable abbrev MSp := List (Str × D) → List R → D → List (Str × D) → Prop
noncomputable def liftSpM (K : PySem.W.Frag) (C : Addr) (n : Nat) (sp : MSp) : Sp := fun vs H Q _ => ∃ (a dx : Addr) (fvs : List (Str × V)) (us : List V) (fs : List (Str × D)) (rs : List R) (d : D) (fs' : List (Str × D)),
  vs = .ref a :: us ∧ H a = some (.ins C dx fvs) ∧ KVS K H fs fvs ∧ rs.length = n ∧ AllR K (fun _ => none) H rs us ∧ rs.all argOk = true ∧ sp fs (rs.map nrm) d fs' ∧
  ∀ v H', SameX a H H' → IsS K H' d v → (∃ dx' fvs', H' a = some (.ins C dx' fvs') ∧ KVS K H' fs' fvs') → Q v H'
noncomputable def EndsM (a C : Addr) (d : D) (fs : List (Str × D)) : DEnds := { nx := fun τ => d = .non ∧ τ[0]? = some (some (.ins a C fs)), rt := fun r => r = .ms a C d fs, bk := fun _ => False, ct := fun _ => False }
theorem startM_zero {N : List Str} {a C : Addr} {fs : List (Str × D)} {rs : List R} : (startD N (.ms a C .non fs :: rs))[0]? = some (some (.ins a C fs)) := rfl
theorem startM_succ {N : List Str} {a C : Addr} {fs : List (Str × D)} {rs : List R} {i : Nat} : (startD N (.ms a C .non fs :: rs))[i + 1]? = (startD N (.ob a :: rs))[i + 1]? := rfl
theorem rep_startM {K : PySem.W.Frag} {H : Hp} {N : List Str} {a C dx : Addr} {fvs : List (Str × V)} {fs : List (Str × D)} {rs : List R} {vs : List V} (ha : H a = some (.ins C dx fvs)) (kv : KVS K H fs fvs) (al : AllR K (fun _ => none) H rs vs) (ok : rs.all argOk = true) :
    Rep K (hid a H) (startD N (.ms a C .non fs :: rs)) (L2.start N (.ref a :: vs)) H := by
  have al2 : AllR K (fun _ => none) H (.ob a :: rs) (.ref a :: vs) := ⟨_, _, rfl, rfl, al⟩
  have ok2 : (R.ob a :: rs).all argOk = true := by rw [List.all_cons, ok]; rfl
  have h := rep_start (N := N) al2 ok2
  have nomut : ∀ (i : Nat) (s : Sl), (startD N (.ob a :: rs))[i]? = some (some s) → s.mut = false := fun i s e => by
    unfold startD at e
    by_cases hi : i < (R.ob a :: rs).length
    · rw [List.getElem?_append_left (by rw [List.length_map]; exact hi), List.getElem?_map, List.getElem?_eq_getElem hi] at e
      rw [← Option.some.inj (Option.some.inj e)]
      exact slotOf_mut (List.all_eq_true.mp ok2 _ (List.getElem_mem hi))
    · rw [List.getElem?_append_right (by rw [List.length_map]; omega)] at e
      have := List.mem_of_getElem? e
      rw [List.mem_replicate] at this
      cases this.2
  refine ⟨h.len, fun b o hb => ?_, fun i s e => ?_, fun i j s t v hne e1 e2 m1 m2 _ _ => ?_⟩
  · by_cases hba : b = a
    · subst hba; rw [hid_same] at hb; cases hb
    · rw [hid_ne hba] at hb; exact hb
  · cases i with
    | zero =>
      rw [startM_zero] at e; cases e
      obtain ⟨v, hv, q⟩ := h.here 0 (.ob a) rfl
      cases (show v = .ref a from q)
      exact ⟨_, hv, rfl, hid_same, dx, fvs, ha, kv⟩
    | succ i =>
      rw [startM_succ] at e
      obtain ⟨v, hv, q⟩ := h.here (i + 1) s e
      refine ⟨v, hv, ?_⟩
      have nm := nomut _ _ e
      cases s with
      | dat d => exact q
      | bor ds =>
        obtain ⟨b, xs, e1, e2, e3⟩ := q
        exact ⟨b, xs, e1, by rw [hid_ne (ne_of e2 ha (by intro z; cases z))]; exact e2, e3⟩
      | ob _ => exact q
      | own _ => cases nm
      | dk _ => cases nm
      | dt _ => cases nm
      | ins _ _ _ => cases nm
  · cases i with
    | zero =>
      cases j with
      | zero => exact hne rfl
      | succ j => rw [startM_succ] at e2; rw [nomut _ _ e2] at m2; cases m2
    | succ i => rw [startM_succ] at e1; rw [nomut _ _ e1] at m1; cases m1
section
variable {P : Program} {w : World} {K : PySem.W.Frag} {mg : Str → Option Value} {base : Heap}
theorem Fun.okM {x qual : Str} {st : Stmt} {f C : Addr} {fd : FuncData} {N ps : List Str} {k n : Nat} {sp : MSp} {ws : WS} (F : Fun K x qual st f fd) (S : FnScope N ps (defScope st)) (hps : ps.length = n + 1)
    (hbody : ∀ (cdv : Value) (A : Around) (outer : List Env) (s : Shared) (H : Hp) (E : XK) (a : Addr), Room k (A.deeper (envOfC qual (defScope st) s.heap.objs.size f cdv)) → DSs (cxOf CX0 P w K mg base N qual (defScope st) f cdv A outer s H E).nox (hid a H) (defBody st) ws)
    (hr : ∀ a fs rs d fs', rs.length = n → sp fs rs d fs' → ws (EndsM a C d fs') (startD N (.ms a C .non fs :: rs))) : FnOk P w K mg base CX0 (k + 1) f fd ps (liftSpM K C n sp) := by
  refine F.ok S (fun vs H Q E h => ?_) (fun cdv A outer s H vs Q E hr' h => ?_)
  · obtain ⟨a, dx, fvs, us, fs, rs, d, fs', rfl, _, _, hl, al, _⟩ := h
    rw [List.length_cons, ← al.length, hl, hps]
  obtain ⟨a, dx, fvs, us, fs, rs, d, fs', rfl, ha, kv, hl, al, ok, h1, h2⟩ := h
  have hd := hbody cdv A outer s H E a hr'
  refine ⟨_, hd.ps, startD N (.ms a C .non fs :: rs), rep_startM ha kv al ok, ?_⟩
  have hw := hr a fs (rs.map nrm) d fs' (by rw [List.length_map]; exact hl) h1
  have e : startD N (R.ms a C .non fs :: rs.map nrm) = startD N (R.ms a C .non fs :: rs) := by
    unfold startD
    rw [List.map_cons, List.map_cons, List.map_map, List.length_cons, List.length_cons, List.length_map]
    congr 2
    exact List.map_congr_left fun r _ => congrArg some (slotOf_nrm r)
  rw [e] at hw
  refine hd.mono _ _ _ ⟨fun τ h σ H' _ hR => ?_, fun r' h v H' sm ir => ?_, fun _ h => False.elim h, fun _ h => False.elim h⟩ hw
  · obtain ⟨h3, h4⟩ := h
    subst h3
    obtain ⟨hv, h0, dx', vs', ha', kv'⟩ := hR.insAt h4
    exact h2 .non H' (sameX_of hR.same) (IsS.s_non (K := K) (H := H')) ⟨dx', vs', ha', kv'⟩
  · have h : r' = .ms a C d fs' := h
    subst h
    obtain ⟨h3, dx', vs', ha', kv'⟩ := ir
    exact h2 v H' (sameX_of sm) h3 ⟨dx', vs', ha', kv'⟩
end
section
variable {X : Cx} {H0 : Hp} {a b e o value : Expr} {es : List Expr} {pos pos' tpos cpos apos p : Pos} {wa wb we : WE} {f m x : Str} {C fa : Addr} {fd : FuncData} {ps : List Str} {k : Nat} {sp : MSp} {wr : WA}
noncomputable def mMeth (C : Addr) (i : Nat) (m : Str) (sp : MSp) (wr : WA) : WM := fun τ Q => ∃ a fs, τ[i]? = some (some (.ins a C fs)) ∧ fs.lookup m = none ∧ wr τ fun rs => rs.all argOk = true ∧ ∃ d fs', sp fs (rs.map nrm) d fs' ∧ Q d (τ.set i (some (.ins a C fs')))
theorem DM.meth {i : Nat} {pl : Sem Bool} (ho : PE X o (tVar i)) (c : Cls X.K C) (hm : Meth X.K C m fa) (F : FnOk X.prog X.w X.K X.mg X.base CX0 k fa fd ps (liftSpM X.K C (e :: es).length sp)) (hr : Room k X.A) (hb : Binds X.K fd ps []) (ha : DA X H0 (e :: es) wr)
    (hst : starEach (e :: es) X.env = (false, eval e X.env) :: starEach es X.env := by rfl) (hpl : (backTo pos (starEach es X.env)).any (·.1) = false := by rfl)
    (ht : eval (.Call (.Attribute o m apos) (e :: es) [] pos) X.env = (do
      let ov ← eval o X.env
      standAt apos.atName
      let (f, first) ← holding [ov] (getMethod ov m pl)
      callWith pos f first (backTo pos (starEach (e :: es) X.env)) (backToKw pos (keywordEach [] X.env))) := by rfl) :
    DM X H0 (.Call (.Attribute o m apos) (e :: es) [] pos) (mMeth C i m sp wr) where
  mono := fun τ P Q g ⟨a, fs, h1, h2, h⟩ => ⟨a, fs, h1, h2, ha.mono τ _ _ (fun rs ⟨ok, d, fs', h3, h4⟩ => ⟨ok, d, fs', h3, g _ _ h4⟩) h⟩
  pe := peW (pe_meth ho c hm F hr hb .nil pass0 ha.pa hst hpl ht) fun σ H Q ⟨τ, hR, a, fs, h1, h2, h⟩ => by
    obtain ⟨hv, h0, dx, vs, hA, kv⟩ := hR.insAt h1
    refine ⟨_, hv, a, dx, vs, rfl, hA, ?_, τ, hR, ha.mono τ _ _ (fun rs ⟨hln, ok, d, fs', h3, h4⟩ us H1 s1 irs => ?_) (ha.len τ _ h)⟩
    · rcases KVS.look (f := m) kv with ⟨_, n1⟩ | ⟨d', v', n1, n2, n3⟩
      · exact n1
      · rw [h2] at n1; cases n1
    · refine ⟨a, dx, vs, us, fs, rs, d, fs', by rw [List.append_nil], s1 _ _ hA, kv.mono (Kp.of s1) _ _, hln, irs.v, ok, h3, fun v H' sx iv hx => ?_⟩
      obtain ⟨kp, hR2⟩ := (hR.mono s1).mutX h1 sx hx
      exact h4 v H' ((Kp.of s1).trans kp) hR2 iv
noncomputable def mMeth0 (C : Addr) (i : Nat) (m : Str) (sp : MSp) : WM := fun τ Q => ∃ a fs, τ[i]? = some (some (.ins a C fs)) ∧ fs.lookup m = none ∧ ∃ d fs', sp fs [] d fs' ∧ Q d (τ.set i (some (.ins a C fs')))
theorem DM.meth0 {i : Nat} {pl : Sem Bool} (ho : PE X o (tVar i)) (c : Cls X.K C) (hm : Meth X.K C m fa) (F : FnOk X.prog X.w X.K X.mg X.base CX0 k fa fd ps (liftSpM X.K C 0 sp)) (hr : Room k X.A) (hb : Binds X.K fd ps [])
    (ht : eval (.Call (.Attribute o m apos) [] [] pos) X.env = (do
      let ov ← eval o X.env
      standAt apos.atName
      let (f, first) ← holding [ov] (getMethod ov m pl)
      callWith pos f first (backTo pos (starEach [] X.env)) (backToKw pos (keywordEach [] X.env))) := by rfl) :
    DM X H0 (.Call (.Attribute o m apos) [] [] pos) (mMeth0 C i m sp) where
  mono := fun τ P Q g ⟨a, fs, h1, h2, d, fs', h3, h4⟩ => ⟨a, fs, h1, h2, d, fs', h3, g _ _ h4⟩
  pe := peW (pe_meth0 ho c hm F hr hb .nil pass0 ht) fun σ H Q ⟨τ, hR, a, fs, h1, h2, d, fs', h3, h4⟩ => by
    obtain ⟨hv, h0, dx, vs, hA, kv⟩ := hR.insAt h1
    refine ⟨_, hv, a, dx, vs, rfl, hA, ?_, ?_⟩
    · rcases KVS.look (f := m) kv with ⟨_, n1⟩ | ⟨d', v', n1, n2, n3⟩
      · exact n1
      · rw [h2] at n1; cases n1
    · refine ⟨a, dx, vs, [], fs, [], d, fs', rfl, hA, kv, rfl, rfl, rfl, h3, fun v H' sx iv hx => ?_⟩
      obtain ⟨kp, hR2⟩ := hR.mutX h1 sx hx
      exact h4 v H' kp hR2 iv
noncomputable def wMake (C : Addr) (i : Nat) (sp : MSp) (wr : WA) : WS := fun E τ => wr τ fun rs => rs.all argOk = true ∧ ∃ fs', sp [] (rs.map nrm) .non fs' ∧ ∀ a, E.nx (τ.set i (some (.ins a C fs')))
theorem DS.make {i : Nat} {y : Str} (M : Mk X.K C fa) (F : FnOk X.prog X.w X.K X.mg X.base CX0 k fa fd ps (liftSpM X.K C (e :: es).length sp)) (hr : Room (k + 1) X.A) (hg : Gl X x) (hm : X.mg x = some (.ref C)) (hb : Binds X.K fd ps []) (ha : DA X H0 (e :: es) wr)
    (hN : X.N.Nodup) (hi : X.N[i]? = some y) (hy : Loc X.env.scope y) (hdb : (x == ("__debug__" : Str)) = false := by decide) (he : starEach (e :: es) X.env = (false, eval e X.env) :: starEach es X.env := by rfl) (hpl : (backTo cpos (starEach es X.env)).any (·.1) = false := by rfl)
    (hs : swapsWith (.Call (.Name x p) (e :: es) [] cpos) (some (.Name y pos')) pos.line X.env = pure false := by rfl)
    (hf : X.fn y = true ∨ X.env.scope.names.lookup y = some .local := by first | exact .inl rfl | exact .inr rfl | assumption) :
    DS X H0 (.Assign [.Name y pos'] (.Call (.Name x p) (e :: es) [] cpos) pos) (wMake C i sp wr) where
  mono := fun τ E F' le h => ha.mono τ _ _ (fun rs ⟨ok, fs', h1, h2⟩ => ⟨ok, fs', h1, fun a => le.nx _ (h2 a)⟩) h
  ps := psW (ps_set hN hi hy (pe_make M F hr hg hm hb .nil pass0 ha.pa hdb he hpl) hs hf) fun D σ H ⟨τ, hR, h⟩ => ⟨τ, hR, ha.mono τ _ _ (fun rs ⟨hln, ok, fs', h1, h2⟩ us H1 s1 irs => by
    intro q dx hq hdx hne
    have s2 : Same H1 (upd (upd H1 dx (.own q)) q (.ins C dx [])) := fun b ob hb => by rw [upd_ne (ne_of_none hb hq), upd_ne (ne_of_none hb hdx)]; exact hb
    refine ⟨q, dx, [], us, [], rs, .non, fs', by rw [List.append_nil], upd_same, rfl, hln, ?_, ok, h1, fun v H' sx iv hx => ⟨iv, ?_⟩⟩
    · have : ∀ {rs : List R} {vs : List V}, AllR X.K (fun _ => none) H1 rs vs → AllR X.K (fun _ => none) (upd (upd H1 dx (.own q)) q (.ins C dx [])) rs vs := by
        intro rs
        induction rs with
        | nil => intro vs h; exact h
        | cons r rs ih => intro vs h; obtain ⟨v, t, e, z, h⟩ := h; exact ⟨v, t, e, z.mono s2, ih h⟩
      exact this irs.v
    · have sH : Same H1 H' := fun b ob hb => sx b ob (ne_of_none hb hq) (s2 b ob hb)
      have hR1 := hR.mono s1
      have hR2 := hR1.mono sH
      refine h2 q _ _ ((Kp.of s1).trans (Kp.of sH)) (hR2.set (s := .ins q C fs') ⟨rfl, hR1.same.free hq, hx⟩ fun _ j t hj e m z => ?_)
      obtain ⟨ob, ho⟩ := hR1.tracked e m z
      rw [hq] at ho; cases ho) (ha.len τ _ h)⟩
end
end TK
end
section
set_option maxRecDepth 100000
set_option maxHeartbeats 1000000
namespace TK
open PySem PySem.Spec PyProof.Rows L2
noncomputable def mentsC (w : World) : List DictEntry → List (Str × Sum Int Str) → Prop
  | [], [] => True
  | e :: es, kv :: kvs => (∃ t, e.key = .str kv.1 t) ∧ e.hash = PyData.keyHash w.params kv.1 ∧ RelV (cV kv.2) e.val ∧ mentsC w es kvs
  | _, _ => False
structure MDictC (K : PySem.W.Frag) (w : World) (d : Addr) (kvs : List (Str × Sum Int Str)) : Prop where
  here : ∃ es ep, K.lookup d = some { cls := .type "dict", data := .dict es ep } ∧ mentsC w es.toList kvs
  low : (d == sysModules) = false
  nodup : (kvs.map (·.1)).Nodup
theorem mentsC_of {P : Program} {w : World} : ∀ {es : List DictEntry} {kvs : List (Str × Sum Int Str)}, mentsC w es kvs → ∃ vs : List (Key × Value), KV (kvs.map fun kv => ((Sum.inr kv.1 : Key), cV kv.2)) vs ∧ Pairs (mixKind P w) es vs ∧ (∀ e ∈ es, ∃ k, (mixKind P w).is k e.key = true ∧ e.hash = (mixKind P w).hash k)
  | [], [], _ => ⟨[], .nil, .nil, fun e h => by cases h⟩
  | e :: es, kv :: kvs, h => by
    obtain ⟨⟨t, hk⟩, hh, hv, h⟩ := h
    obtain ⟨vs, h1, h2, h3⟩ := mentsC_of (P := P) h
    have hi : (mixKind P w).is (.inr kv.1) e.key = true := by rw [hk]; exact mixKind_str P w kv.1 t
    refine ⟨(.inr kv.1, e.val) :: vs, .cons ⟨rfl, hv⟩ h1, .cons hi rfl h2, fun e' he' => ?_⟩
    rcases List.mem_cons.mp he' with rfl | he'
    · exact ⟨.inr kv.1, hi, hh⟩
    · exact h3 e' he'
  | [], _ :: _, h => h.elim
  | _ :: _, [], h => h.elim
theorem nodup_inrC : ∀ {l : List (Str × Sum Int Str)}, (l.map (·.1)).Nodup → ((l.map fun kv => ((Sum.inr kv.1 : Key), cV kv.2)).map (·.1)).Nodup
  | [], _ => by simp
  | kv :: r, h => by
    obtain ⟨h1, h2⟩ := List.nodup_cons.mp (show (kv.1 :: r.map (·.1)).Nodup from h)
    refine List.nodup_cons.mpr ⟨fun m => h1 ?_, nodup_inrC h2⟩
    obtain ⟨p, hp, e⟩ := List.mem_map.mp m
    obtain ⟨q, hq, rfl⟩ := List.mem_map.mp hp
    have e : (Sum.inr q.1 : Key) = Sum.inr kv.1 := e
    exact List.mem_map.mpr ⟨q, hq, Sum.inr.inj e⟩
theorem MDictC.dict {X : Cx} {pins : List (Addr × Obj)} {σ : St} {H : Hp} {s : Shared} {d : Addr} {kvs : List (Str × Sum Int Str)} (m : MDictC X.K X.w d kvs) (I : Inv X pins σ H s) :
    ∃ vs, KV (kvs.map fun kv => ((Sum.inr kv.1 : Key), cV kv.2)) vs ∧ s.heap.DictOf (mixKind X.prog X.w) d vs := by
  obtain ⟨es, ep, hk, he⟩ := m.here
  obtain ⟨vs, h1, h2, h3⟩ := mentsC_of (P := X.prog) he
  exact ⟨vs, h1, _, es, ep, I.kIn _ _ hk, ⟨rfl, rfl, rfl⟩, rfl, fun e he => h3 e (by simpa using he), h2, by rw [← h1.keys]; exact nodup_inrC m.nodup⟩
section
variable {X : Cx} {H0 : Hp} {a b c e o tg : Expr} {pos pos' p p2 p3 p4 apos cpos : Pos} {wa wb we : WE} {x : Str} {d : Addr} {kvs : List (Str × Sum Int Str)}
theorem DE.mgetC (m : MDictC X.K X.w d kvs) (hg : Gl X x) (hm : X.mg x = some (.ref d)) (he : DE X H0 e we) (hs : NoSl e) (hd : (x == ("__debug__" : Str)) = false := by decide) :
    DE X H0 (.Subscript (.Name x p) e pos) (wDsub kvs we) where
  mono := fun τ P Q f h => he.mono τ _ _ (fun r h => by obtain ⟨k, rfl, i, h1, h2⟩ := strR_of h; exact ⟨i, h1, f _ h2⟩) h
  pe := by
    intro pins s σ H Q I ⟨τ, hR, h⟩
    refine subD_of PySem.F.slot_dict_getitem.lookup hs (ld_glob I hg hm (thn (he.pe pins s σ H (fun v H1 => ∃ k i, v = .str k ∧ lkc kvs k = some i ∧ Q (cV i) H1) I ⟨τ, hR, he.mono τ _ _ (fun r h v H1 s1 ir => ?_) h⟩) fun iv s2 ⟨y, H2, I2, ry, k, i, ey, hl, q⟩ => ?_) hd)
    · obtain ⟨k, rfl, i, h1, h2⟩ := strR_of h
      exact ⟨k, i, ir, h1, h2 _ _ s1 (isr_c i)⟩
    · subst ey
      obtain ⟨vs, rel, dd⟩ := m.dict I2
      obtain ⟨w', hw, rw'⟩ := RelO.some_of (v := cV i) (o := valueAt vs (.inr k)) (by
        have := rel.val (.inr k)
        rw [valV_lkc, hl] at this
        exact this)
      exact ⟨dd.typeIs, wpAny_getItem_of (kV_is (k := .inr k) ry) dd.mapOf hw ⟨cV i, H2, I2.tok _, rw', q⟩⟩
noncomputable def mDsub (kvs : List (Str × Sum Int Str)) (w : WM) : WM := fun τ Q => w τ fun d τ' => ∃ k c, d = .str k ∧ lkc kvs k = some c ∧ Q (cD c) τ'
theorem DM.mgetC {w : WM} (m : MDictC X.K X.w d kvs) (hg : Gl X x) (hm : X.mg x = some (.ref d)) (he : DM X H0 e w) (hs : NoSl e) (hd : (x == ("__debug__" : Str)) = false := by decide) :
    DM X H0 (.Subscript (.Name x p) e pos) (mDsub kvs w) where
  mono := fun τ P Q f h => he.mono τ _ _ (fun d τ' ⟨k, c, h1, h2, h3⟩ => ⟨k, c, h1, h2, f _ _ h3⟩) h
  pe := by
    intro pins s σ H Q I ⟨τ, hR, h⟩
    refine subD_of PySem.F.slot_dict_getitem.lookup hs (ld_glob I hg hm (thn (he.pe pins s σ H (fun v H1 => ∃ k i, v = .str k ∧ lkc kvs k = some i ∧ Q (cV i) H1) I ⟨τ, hR, he.mono τ _ _ (fun d τ' h v H1 k1 hR1 ir => ?_) h⟩) fun iv s2 ⟨y, H2, I2, ry, k, i, ey, hl, q⟩ => ?_) hd)
    · obtain ⟨k, c, rfl, h1, h2⟩ := h
      exact ⟨k, c, ir, h1, h2 _ _ k1 hR1 (isr_c (K := X.K) (H0 := H) (H := H1) c)⟩
    · subst ey
      obtain ⟨vs, rel, dd⟩ := m.dict I2
      obtain ⟨w', hw, rw'⟩ := RelO.some_of (v := cV i) (o := valueAt vs (.inr k)) (by
        have := rel.val (.inr k)
        rw [valV_lkc, hl] at this
        exact this)
      exact ⟨dd.typeIs, wpAny_getItem_of (kV_is (k := .inr k) ry) dd.mapOf hw ⟨cV i, H2, I2.tok _, rw', q⟩⟩
theorem pc_minC (m : MDictC X.K X.w d kvs) (hg : Gl X x) (hm : X.mg x = some (.ref d)) (he : DE X H0 e we) (hd : (x == ("__debug__" : Str)) = false := by decide) :
    PC X .In e (.Name x p) (fun σ H Q => ∃ τ, Rep X.K H0 τ σ H ∧ we τ fun r => strR r fun k => ∀ H', Same H H' → Q (.bl (lkc kvs k).isSome) H') := by
  intro pins s σ H Q I ⟨τ, hR, h⟩
  refine thn (he.pe pins s σ H (fun v H1 => ∃ k, v = .str k ∧ Q (.bl (lkc kvs k).isSome) H1) I ⟨τ, hR, he.mono τ _ _ (fun r h v H1 s1 ir => ?_) h⟩) fun iv s2 ⟨y, H2, I2, ry, k, ey, q⟩ => ld_glob I2 hg hm ?_ hd
  · obtain ⟨k, rfl, h⟩ := strR_of h
    exact ⟨k, ir, h H1 s1⟩
  · subst ey
    obtain ⟨vs, rel, dd⟩ := m.dict I2
    refine wpAny_in_of (kV_is (k := .inr k) ry) m.low dd.mapOf ?_
    have := (rel.val (.inr k)).isSome_eq
    rw [valV_lkc, Option.isSome_map] at this
    rw [← this]
    exact ⟨.bl _, H2, I2.tok _, rfl, q⟩
noncomputable def wMinC (kvs : List (Str × Sum Int Str)) (we : WE) : WT := fun τ Q => we τ fun r => strR r fun k => Q (lkc kvs k).isSome
theorem wMinC_mono (he : DE X H0 e we) : ∀ (τ : DSt) (P Q : Bool → Prop), (∀ r, P r → Q r) → wMinC kvs we τ P → wMinC kvs we τ Q := fun τ P Q f h => he.mono τ _ _ (fun r h => by obtain ⟨k, rfl, h⟩ := strR_of h; exact f _ h) h
theorem DT.minC (m : MDictC X.K X.w d kvs) (hg : Gl X x) (hm : X.mg x = some (.ref d)) (he : DE X H0 e we) (h1 : behindInMarks .In (.Name x p) = false := by rfl) (hd : (x == ("__debug__" : Str)) = false := by decide) :
    DT X H0 (.Compare e [.In] [.Name x p] pos) (wMinC kvs we) where
  mono := wMinC_mono he
  pt := ptW (pt_cmp (pc_minC m hg hm he hd) h1) fun σ H Q ⟨τ, hR, h⟩ => ⟨τ, hR, he.mono τ _ _ (fun r h => by obtain ⟨k, rfl, h⟩ := strR_of h; exact fun H' s1 => ⟨_, rfl, h _ s1⟩) h⟩
noncomputable def wFind3 (wo we wi : WE) : WE := fun τ Q => wo τ fun r1 => strR r1 fun x => we τ fun r2 => strR r2 fun y => wi τ fun r3 => intR r3 fun i => Q (.st (.int (Txt.find3 x y i)))
theorem mt_find3 : MtR X "str.find" (fun x vs H Q => ∃ z y i, x = .str z ∧ vs = [.str y, .int i] ∧ Q (.int (Txt.find3 z y i)) H) := by
  intro pins s σ H x vs v us Q I rx rv ⟨z, y, i, e1, e2, q⟩
  subst e1 e2
  obtain ⟨t, rfl⟩ := rx
  obtain ⟨u, u', rfl, ⟨t', rfl⟩, ⟨t'', rfl⟩⟩ := vals2 rv
  exact PySem.SC.find3 ⟨.int _, H, I.tok _, ⟨_, rfl⟩, q⟩
theorem DE.find3 {wo wi : WE} {i : Expr} (ho : DE X H0 o wo) (he : DE X H0 e we) (hi : DE X H0 i wi) (hbase : attributeBase o "find" X.env (eval o X.env) = eval o X.env := by rfl)
    (hfew : ((backTo cpos (starEach [e, i] X.env)).all (fun x => !x.1) && (backToKw cpos (keywordEach [] X.env)).all (fun x => x.1.isSome) && decide ([e, i].length + ([] : List Keyword).length + (if ([] : List Keyword).isEmpty then 0 else 1) < 30)) = true := by rfl)
    (hline : (apos.endLine == cpos.line) = true := by rfl) (hs : starEach [e, i] X.env = (false, eval e X.env) :: starEach [i] X.env := by rfl) (hs2 : starEach [i] X.env = (false, eval i X.env) :: starEach [] X.env := by rfl) (hplain : (backTo cpos (starEach [i] X.env)).any (·.1) = false := by rfl) :
    DE X H0 (.Call (.Attribute o "find" apos) [e, i] [] cpos) (wFind3 wo we wi) where
  mono := fun τ P Q f h => ho.mono τ _ _ (fun r h => by
    obtain ⟨x, rfl, h⟩ := strR_of h
    exact he.mono τ _ _ (fun r h => by
      obtain ⟨y, rfl, h⟩ := strR_of h
      exact hi.mono τ _ _ (fun r h => by obtain ⟨j, rfl, h⟩ := intR_of h; exact f _ h) h) h) h
  pe := peW (pe_bm PySem.F.plainAttrs_str PySem.F.slot_str_find PySem.F.type_str_find mt_find3 ho.pe (pa_cons he.pe (pa_cons hi.pe pa_nil hs2) hs) hbase hfew hline hs hplain) fun σ H Q ⟨τ, hR, h⟩ => ⟨τ, hR, ho.mono τ _ _ (fun r h v H1 s1 ir => by
    obtain ⟨x, rfl, h⟩ := strR_of h
    cases (show v = .str x from ir)
    refine ⟨rfl, τ, hR.mono s1, he.mono τ _ _ (fun r h u H2 s2 iu => ?_) h⟩
    obtain ⟨y, rfl, h⟩ := strR_of h
    cases (show u = .str y from iu)
    refine ⟨τ, hR.mono (s1.trans s2), hi.mono τ _ _ (fun r h u H3 s3 iu => ?_) h⟩
    obtain ⟨j, rfl, h⟩ := intR_of h
    cases (show u = .int j from iu)
    exact ⟨x, y, j, rfl, rfl, h _ _ (s1.trans (s2.trans s3)) isr_int⟩) h⟩
noncomputable def max2D (rs : List R) (Q : R → Prop) : Prop := ∃ i j : Int, rs = [.st (.int i), .st (.int j)] ∧ Q (.st (.int (if j > i then j else i)))
theorem max2D_mono : Mono1 max2D := fun rs P Q f ⟨i, j, e, h⟩ => ⟨i, j, e, f _ h⟩
theorem call_max2R (hc : X.calm = true) : CallD X (.builtin "max") max2D := by
  intro pins s σ H xs us Q I rv ⟨rs, irs, i, j, e, h⟩
  subst e
  obtain ⟨v, t, rfl, iv, v', t', rfl, iv', et⟩ := irs
  cases (show t' = [] from et)
  cases (show v = .int i from iv)
  cases (show v' = .int j from iv')
  exact call_max2 hc pins s σ H _ us Q I rv ⟨i, j, rfl, h _ _ (Same.refl H) isr_int⟩
noncomputable def wRevL (we : WE) : WE := fun τ Q => we τ fun r => ∃ ds, lsAny r = some ds ∧ Q (.nw ds.reverse)
theorem DE.revL {j : Nat} (he : DE X H0 e we) : DE X H0 (.Subscript e (.Slice none none (some (.UnaryOp .USub (.Constant (.int 1) j p3) p4)) p2) pos) (wRevL we) where
  mono := fun τ P Q f h => he.mono τ _ _ (fun r ⟨ds, h1, h2⟩ => ⟨ds, h1, f _ h2⟩) h
  pe := by
    intro pins s σ H Q I ⟨τ, hR, h⟩
    refine Subscript_ (thn (he.pe pins s σ H (fun v H1 => Same H H1 ∧ ∃ r ds, lsAny r = some ds ∧ IsR X.K H H1 r v ∧ ∀ v H', Same H H' → IsR X.K H H' (.nw ds.reverse) v → Q v H') I ⟨τ, hR, he.mono τ _ _ (fun r ⟨ds, h1, h2⟩ v H1 s1 ir => ⟨s1, r, ds, h1, ir, h2⟩) h⟩) fun u s1 ⟨v, H1, I1, r1, sm, r, ds, hls, ir, q⟩ => ?_)
    refine wpAny_Slice ?_
    rw [evalPart_none]
    refine wpAny_pure ?_
    refine wpAny_pure ?_
    rw [evalPart_some]
    refine thn (pe_un un_neg pe_int pins s1 σ H1 (fun z Hz => z = .int (-1) ∧ Hz = H1) I1 ⟨1, rfl, rfl, rfl⟩) fun stv s3 ⟨z, H3, I3, r3, e1, e2⟩ => ?_
    subst e1 e2
    obtain ⟨t, rfl⟩ := r3
    obtain ⟨p, xs, rfl, sq, al⟩ := lsAny_of hls ir
    cases r1
    have I4 : Inv X pins σ H3 { s3 with heap := s3.heap.push { cls := .type "slice", data := .fields #[.none, .none, .int (-1) t] } } := I3.kept (t' := s3.toks) fun b ob q => Heap.get?_push_of_some _ q
    obtain ⟨its, rv, pt, hz⟩ := I4.list sq
    have hlen := rv.length
    show wpAny (model X.prog X.w) X.A (subscriptTail e (.Slice none none (some (.UnaryOp .USub (.Constant (.int 1) j p3) p4)) p2) (.ref p) (.ref s3.heap.objs.size)) (EP X pins σ Q) X.xe { s3 with heap := s3.heap.push { cls := .type "slice", data := .fields #[.none, .none, .int (-1) t] } }
    refine tail_any (ops := [.ref p, .ref s3.heap.objs.size]) pt.isList.typeIs slot_list_getitem.lookup (wpAny_getItem_list_slice pt.isList (Heap.IsSliceOf.new ..) .none .none (.int (-1) t) (by decide) ?_ (by rw [List.size_toArray] <;> omega)) (by with_unfolding_all rfl)
    rw [PySem.W.krv_pick]
    have hf := I4.hok.fresh (Nat.le_refl _)
    refine ⟨.ref _, _, I4.laid (t' := s3.toks) (o := .lst xs.reverse) (fun b ob q => Heap.get?_push_of_some _ q) (Nat.le_refl _) ?_, rfl, q _ _ (sm.trans (same_new hf _)) ⟨_, xs.reverse, rfl, sm.free hf, upd_same, al.reverse.mono (Kp.of (same_new hf _)) _ _⟩⟩
    exact ⟨by rw [List.length_reverse]; exact hz, its.reverse, 0, Vals.reverse rv, Heap.get?_push_size _ rfl⟩
end
end TK
end
section
set_option maxRecDepth 100000
namespace TK
open PySem PySem.Spec PyProof.Rows L2
structure DfM (K : PySem.W.Frag) (name qual : Str) (st : Stmt) (ps : List Str) (f : Addr) (fd : FuncData) : Prop where
  F : Fun K name qual st f fd
  b : Binds K fd ps []
noncomputable abbrev FnM (P : Program) (w : World) (K : PySem.W.Frag) (mg : Str → Option Value) (base : Heap) (k : Nat) (f : Addr) (fd : FuncData) (ps : List Str) (C : Addr) (n : Nat) (sp : MSp) : Prop := FnOk P w K mg base CX0 k f fd ps (liftSpM K C n sp)
noncomputable def NoF (fs : List (Str × D)) (m : Str) : Prop := fs.lookup m = none
@[simp] theorem ex_ins {α β : Type} {a0 : α} {b0 : β} {P : α → β → Prop} : (∃ a b, (a0 = a ∧ b0 = b) ∧ P a b) ↔ P a0 b0 := ⟨fun ⟨_, _, ⟨e1, e2⟩, h⟩ => by subst e1 e2; exact h, fun h => ⟨_, _, ⟨rfl, rfl⟩, h⟩⟩
@[simp] theorem ex_ins2 {α β : Type} {a0 : α} {b0 : β} {P : α → β → Prop} : (∃ a b, (a0 = a ∧ b = b0) ∧ P a b) ↔ P a0 b0 := ⟨fun ⟨_, _, ⟨e1, e2⟩, h⟩ => by subst e1 e2; exact h, fun h => ⟨_, _, ⟨rfl, rfl⟩, h⟩⟩
section
variable {τ : DSt} {E : DEnds} {Q : R → Prop} {QB : Bool → Prop} {QM : D → DSt → Prop} {wa wb we : WE} {wr : WA} {wm : WM} {C : Addr} {i n : Nat} {f m : Str} {sp : MSp} {kvs : List (Str × Sum Int Str)} {ws wt : WS}
@[simp] theorem s_fld : wFld C i f τ Q = ∃ a fs d, τ[i]? = some (some (.ins a C fs)) ∧ fs.lookup f = some d ∧ Q (.st d) := rfl
@[simp] theorem s_fldS : wFldS C i f we E τ = we τ fun r => fzR r fun d => ∃ a fs, τ[i]? = some (some (.ins a C fs)) ∧ fs.length < 1000 ∧ E.nx (τ.set i (some (.ins a C (putFD f d fs)))) := rfl
@[simp] theorem s_fldAug {g : Int → Int → Int} : wFldAug C i f g we E τ = ∃ a fs k, τ[i]? = some (some (.ins a C fs)) ∧ fs.lookup f = some (.int k) ∧ fs.length < 1000 ∧ we τ fun r => intR r fun j => E.nx (τ.set i (some (.ins a C (putFD f (.int (g k j)) fs)))) := rfl
@[simp] theorem s_mOf : mOf we τ QM = we τ fun r => fzR r fun d => QM d τ := rfl
@[simp] theorem s_maNil {QA : List D → DSt → Prop} : maNil τ QA = QA [] τ := rfl
@[simp] theorem s_maCons {wr : WMA} {QA : List D → DSt → Prop} : maCons wm wr τ QA = wm τ fun d τ1 => wr τ1 fun ds τ2 => QA (d :: ds) τ2 := rfl
@[simp] theorem s_mTup {wr : WMA} : mTup wr τ QM = wr τ fun ds τ' => ds.length ≤ sizeLine ∧ QM (.tup ds) τ' := rfl
@[simp] theorem s_setM : wSetM i wm E τ = wm τ fun d τ' => E.nx (τ'.set i (some (.dat d))) := rfl
@[simp] theorem s_exprM : wExprM wm E τ = wm τ fun _ τ' => E.nx τ' := rfl
@[simp] theorem s_retM : wRetM C wm E τ = wm τ fun d τ' => ∃ a fs, τ'[0]? = some (some (.ins a C fs)) ∧ E.rt (.ms a C d fs) := rfl
@[simp] theorem s_mCmp {g : R → R → (Bool → Prop) → Prop} {QT : Bool → DSt → Prop} : mCmp g wm wb τ QT = wm τ fun d τ' => wb τ' fun y => g (.st d) y fun k => QT k τ' := rfl
@[simp] theorem s_ifM {t : WMT} : wIfM t ws wt E τ = t τ fun k τ' => if k = true then ws E τ' else wt E τ' := rfl
@[simp] theorem s_mMeth : mMeth C i m sp wr τ QM = ∃ a fs, τ[i]? = some (some (.ins a C fs)) ∧ NoF fs m ∧ wr τ fun rs => rs.all argOk = true ∧ ∃ d fs', sp fs (rs.map nrm) d fs' ∧ QM d (τ.set i (some (.ins a C fs'))) := rfl
@[simp] theorem s_mMeth0 : mMeth0 C i m sp τ QM = ∃ a fs, τ[i]? = some (some (.ins a C fs)) ∧ NoF fs m ∧ ∃ d fs', sp fs [] d fs' ∧ QM d (τ.set i (some (.ins a C fs'))) := rfl
@[simp] theorem s_make : wMake C i sp wr E τ = wr τ fun rs => rs.all argOk = true ∧ ∃ fs', sp [] (rs.map nrm) .non fs' ∧ ∀ a, E.nx (τ.set i (some (.ins a C fs'))) := rfl
@[simp] theorem s_mDsub : mDsub kvs wm τ QM = wm τ fun d τ' => ∃ k c, d = .str k ∧ lkc kvs k = some c ∧ QM (cD c) τ' := rfl
@[simp] theorem s_minC : wMinC kvs we τ QB = we τ fun r => strR r fun k => QB (lkc kvs k).isSome := rfl
@[simp] theorem s_find3 {wo wi : WE} : wFind3 wo we wi τ Q = wo τ fun r1 => strR r1 fun x => we τ fun r2 => strR r2 fun y => wi τ fun r3 => intR r3 fun i => Q (.st (.int (Txt.find3 x y i))) := rfl
@[simp] theorem s_max2 {a b : Int} : max2D [.st (.int a), .st (.int b)] Q = Q (.st (.int (if b > a then b else a))) := by
  apply propext; constructor
  · rintro ⟨i, j, e, h⟩; cases e; exact h
  · intro h; exact ⟨a, b, rfl, h⟩
@[simp] theorem s_revL : wRevL we τ Q = we τ fun r => ∃ ds, lsAny r = some ds ∧ Q (.nw ds.reverse) := rfl
@[simp] theorem e_nxM {a : Addr} {d : D} {fs : List (Str × D)} : (EndsM a C d fs).nx τ = (d = .non ∧ τ[0]? = some (some (.ins a C fs))) := rfl
@[simp] theorem e_rtM {a : Addr} {d : D} {fs : List (Str × D)} {r : R} : (EndsM a C d fs).rt r = (r = .ms a C d fs) := rfl
end
end TK
end
section
set_option maxRecDepth 100000
namespace TK
open PySem PySem.Spec PyProof.Rows L2
structure Fly (H : Hp) (h g : Heap) (C a : Addr) : Prop where
  free : H a = none
  new : g.get? a = none
  there : ∃ oe vs, h.get? a = some oe ∧ oe.cls = .ref C ∧ oe.data = .fields vs ∧
    (vs[1]? = some .none ∨ ∃ T oT ts, vs[1]? = some (.ref T) ∧ T ≠ a ∧ H T = none ∧ g.get? T = none ∧ h.get? T = some oT ∧ oT.data = .fields ts ∧ ts[3]? = some .none)
theorem frames_of {h base base' : Heap} : ∀ {l : List Env}, h.FunFrames base l → (∀ b ∈ frs l, base'.get? b = none) → h.FunFrames base' l
  | [], _, _ => trivial
  | env :: r, ⟨hk, ⟨L, o, hf, hn, ho, hd⟩, hr⟩, hb => by
    have hm : ∀ b, b = L ∨ b ∈ frs r → b ∈ frs (env :: r) := fun b hb => by
      unfold frs
      rw [List.filterMap_cons, hf]
      rcases hb with rfl | hb
      · exact List.mem_cons_self
      · exact List.mem_cons_of_mem _ hb
    exact ⟨hk, ⟨L, o, hf, hb L (hm L (.inl rfl)), ho, hd⟩, frames_of hr fun b h => hb b (hm b (.inr h))⟩
theorem frame_data {h base : Heap} : ∀ {l : List Env}, h.FunFrames base l → ∀ b ∈ frs l, ∃ o, h.get? b = some o ∧ ∀ vs, o.data ≠ .fields vs
  | [], _, b, hb => absurd hb (by simp [frs])
  | env :: r, ⟨hk, ⟨L, o, hf, hn, ho, hd⟩, hr⟩, b, hb => by
    unfold frs at hb
    rw [List.filterMap_cons, hf] at hb
    rcases List.mem_cons.mp hb with rfl | hb
    · exact ⟨o, ho, hd⟩
    · exact frame_data hr b hb
theorem _root_.L2.ObjOk.there {P : Program} {w : World} {H : Hp} {h : Heap} {a : Addr} {o : HO} (x : ObjOk P w H h a o) : ∃ o, h.get? a = some o := by
  induction o with
  | lst xs => obtain ⟨_, _, _, _, e⟩ := x; exact ⟨_, e⟩
  | tup xs => obtain ⟨_, _, _, ob, e, _⟩ := x; exact ⟨_, e⟩
  | dK kvs => obtain ⟨_, _, _, _, ob, _, _, e, _⟩ := x; exact ⟨_, e⟩
  | dT kvs => obtain ⟨_, _, _, _, ob, _, _, e, _⟩ := x; exact ⟨_, e⟩
  | set S n => obtain ⟨ob, _, _, _, e, _⟩ := x; exact ⟨_, e⟩
  | ins C dx fs => obtain ⟨_, _, _, e, _⟩ := x; exact ⟨_, e⟩
  | own y => exact x
  | xd fs => obtain ⟨_, ⟨od, _, _, e, _⟩, _⟩ := x; exact ⟨_, e⟩
  | rng lo hi => obtain ⟨_, _, _, e⟩ := x; exact ⟨_, e⟩
  | frz ob u ih => exact ⟨_, x.1⟩
  | tbl ps => exact ⟨_, x⟩
  | met f y => exact ⟨_, x⟩
  | ext φ => exact x.2.1
section
variable {M : Model} {A : Around} {E : Value → Shared → Prop} {s : Shared} {P : Program} {w : World}
theorem fly_leave {H : Hp} {g : Heap} {C a L : Addr} {env : Env} {outer : List Env} {base : Heap} {Q : Unit → Shared → Prop} (hfr : A.frames = some (env :: outer)) (hf : env.frame = some L) (hl : s.heap.FunFrames base (env :: outer))
    (F : Fly H s.heap g C a) (hok : HOk P w H s.heap) (hn : ∀ b o, g.get? b = some o → ∃ o', s.heap.get? b = some o')
    (k : ∀ h', (∀ b o, s.heap.get? b = some o → b ∉ frs (env :: outer) → ((∃ o', g.get? b = some o') ∨ ∃ u, H b = some u) → h'.get? b = some o) → (∀ b o, s.heap.get? b = some o → (∀ vs, o.data ≠ .fields vs) → ∃ sl, h'.get? b = some { o with slots := sl }) →
      Fly H h' g C a → Q () { s with heap := h' }) : wpAny M A (leaving env (.ref a)) Q E s := by
  obtain ⟨oe, vs, he, hc, hd, tb⟩ := F.there
  have main : ∀ (as : List Addr), (∀ b ∈ as, b ∉ frs (env :: outer) → H b = none ∧ g.get? b = none) → (∀ b ∈ frs (env :: outer), b ∈ as) → a ∈ as → ∀ h', Heap.Left (PySem.W.hideAll s.heap as) (env :: outer) a (.ref C) s.heap h' → Q () { s with heap := h' } := by
    intro as h1 h2 h3 h' ⟨x1, x2, x3, x4⟩
    refine k h' (fun b o e hb hor => x1 b o (PySem.W.hideAll_get _ e fun hm => ?_)) x4 ⟨F.free, F.new, ?_⟩
    · obtain ⟨y1, y2⟩ := h1 b hm hb
      rcases hor with ⟨o', hor⟩ | ⟨u, hu⟩
      · rw [y2] at hor; cases hor
      · rw [y1] at hu; cases hu
    · obtain ⟨oe', vs', T, oT, ts, e1, e2, e3, e4, e5, e6, e7, e8, e9⟩ := x3
      refine ⟨oe', vs', e1, e2, e3, .inr ⟨T, oT, ts, e4, e6, ?_, ?_, e7, e8, e9⟩⟩
      all_goals
        cases hT : s.heap.get? T with
        | none =>
          first
            | (cases q : H T with
              | none => rfl
              | some u => obtain ⟨o, z⟩ := (hok T u q).there; rw [hT] at z; cases z)
            | (cases q : g.get? T with
              | none => rfl
              | some u => obtain ⟨o, z⟩ := hn T u q; rw [hT] at z; cases z)
        | some o =>
          have hm : T ∈ as := by
            cases Classical.em (T ∈ as) with
            | inl z => exact z
            | inr z => rw [PySem.W.hideAll_get _ hT z] at e5; cases e5
          have hnf : T ∉ frs (env :: outer) := fun z => by
            obtain ⟨o2, q1, q2⟩ := frame_data hl T z
            obtain ⟨sl, q3⟩ := x4 T o2 q1 q2
            rw [e7] at q3; cases q3
            exact q2 _ e8
          first | exact (h1 T hm hnf).1 | exact (h1 T hm hnf).2
  have hfa : a ∉ frs (env :: outer) := fun z => by
    obtain ⟨o2, q1, q2⟩ := frame_data hl a z
    rw [he] at q1; cases q1
    exact q2 _ hd
  rcases tb with h1 | ⟨T, oT, ts, h1, hTa, hHT, hnT, hT, hdT, h3⟩
  · refine wpAny_leaving_first (base := PySem.W.hideAll s.heap (a :: frs (env :: outer))) hfr (frames_of hl fun b hb => PySem.W.hideAll_none _ (List.mem_cons_of_mem _ hb)) hf he (fun b o e => PySem.W.of_hideAll _ e) (PySem.W.hideAll_none _ List.mem_cons_self) hd h1 fun h' x => ?_
    rw [hc] at x
    refine main _ (fun b hb hnb => ?_) (fun b hb => List.mem_cons_of_mem _ hb) List.mem_cons_self h' x
    rcases List.mem_cons.mp hb with rfl | hb
    · exact ⟨F.free, F.new⟩
    · exact absurd hb hnb
  · refine wpAny_leaving_next (base := PySem.W.hideAll s.heap (a :: T :: frs (env :: outer))) (cls := .ref C) hfr (frames_of hl fun b hb => PySem.W.hideAll_none _ (List.mem_cons_of_mem _ (List.mem_cons_of_mem _ hb))) hf
      ⟨oe, vs, T, oT, ts, he, hc, hd, h1, PySem.W.hideAll_none _ (List.mem_cons_of_mem _ List.mem_cons_self), hTa, hT, hdT, h3⟩ (fun b o e => PySem.W.of_hideAll _ e) (PySem.W.hideAll_none _ List.mem_cons_self) fun h' x => ?_
    refine main _ (fun b hb hnb => ?_) (fun b hb => List.mem_cons_of_mem _ (List.mem_cons_of_mem _ hb)) List.mem_cons_self h' x
    rcases List.mem_cons.mp hb with rfl | hb
    · exact ⟨F.free, F.new⟩
    · rcases List.mem_cons.mp hb with rfl | hb
      · exact ⟨hHT, hnT⟩
      · exact absurd hb hnb
end
noncomputable def CX1 (P : Program) (w : World) : CXT := fun outer H s E e s' => ∃ H' C a, e = .ref a ∧ s'.os = s.os ∧ AllBare s'.gens ∧ Un (frs outer) [] H H' s.heap s'.heap ∧ HOk P w H' s'.heap ∧ Fly H' s'.heap s.heap C a ∧ E e (some C) H'
noncomputable def XW (X : Cx) (G : Hp) (XE : Addr → Prop) : Value → Shared → Prop := fun e s' => ∃ σ H C a, e = .ref a ∧ Inv X [] σ H s' ∧ Same G H ∧ Fly H s'.heap X.s₀.heap C a ∧ XE C
noncomputable def wishX (H0 : Hp) (XE : Addr → Prop) : XK := fun _ o H' => ∃ C, o = some C ∧ XE C ∧ Same H0 H'
theorem xw_leave {P : Program} {w : World} {K : PySem.W.Frag} {mg : Str → Option Value} {base : Heap} {N : List Str} {qual : Str} {scope : Scope} {f : Addr} {cd : Value} {A : Around} {outer : List Env} {s : Shared} {H : Hp} {E : XK} {G : Hp} {XE : Addr → Prop} {e : Value} {s' : Shared} (hE : ∀ C e H', XE C → Same G H' → E e (some C) H')
    (h : XW (cxOf (CX1 P w) P w K mg base N qual scope f cd A outer s H E) G XE e s') : (cxOf (CX1 P w) P w K mg base N qual scope f cd A outer s H E).xe e s' := by
  obtain ⟨σ, H', C, a, rfl, I, sm, F, hx⟩ := h
  have noA : ∀ b : Addr, b ∉ (cxOf (CX1 P w) P w K mg base N qual scope f cd A outer s H E).ex := fun b z => absurd (show b ∈ ([] : List Addr) from z) (by simp)
  have hL : (envOfC qual scope s.heap.objs.size f cd).frame = some s.heap.objs.size := rfl
  have inF : ∀ b, b ∈ frs (envOfC qual scope s.heap.objs.size f cd :: outer) → b = s.heap.objs.size ∨ b ∈ frs outer := fun b hb => by
    unfold frs at hb
    rw [List.filterMap_cons, hL] at hb
    exact List.mem_cons.mp hb
  have toF : ∀ b, b ∈ frs outer → b ∈ frs (envOfC qual scope s.heap.objs.size f cd :: outer) := fun b hb => by
    unfold frs
    rw [List.filterMap_cons, hL]
    exact List.mem_cons_of_mem _ hb
  have old : ∀ b o, s.heap.get? b = some o → b ≠ s.heap.objs.size := fun b o e z => absurd (Heap.lt_size e) (by rw [z]; exact Nat.lt_irrefl _)
  have stk : s'.heap.FunFrames base (envOfC qual scope s.heap.objs.size f cd :: outer) := I.stack
  refine fly_leave (P := P) (w := w) (g := s.heap) I.ok.frames hL stk F I.hok (fun b o e => I.base.there b o e (noA b)) fun h' k1 k2 F' => ?_
  refine ⟨H', C, a, rfl, I.os, I.bare, ⟨fun b o e n hb _ => ?_, fun b o e n hb _ => ?_, fun b o e n _ => I.base.free b o e n (noA b), fun b o e _ => ?_, I.base.tups, I.base.frzs, I.base.tbls⟩, fun b u e => ?_, F', hE C _ H' hx sm⟩
  · refine k1 b o (I.base.keep b o e n hb (noA b)) (fun z => ?_) (.inl ⟨o, e⟩)
    rcases inF b z with z | z
    · exact old b o e z
    · exact hb z
  · obtain ⟨sl, q⟩ := I.base.slot b o e n hb (noA b)
    obtain ⟨o2, q1, q2⟩ := frame_data stk b (toF b hb)
    rw [q] at q1; cases q1
    obtain ⟨sl2, q3⟩ := k2 b _ q q2
    exact ⟨sl2, q3⟩
  · obtain ⟨o', q⟩ := I.base.there b o e (noA b)
    by_cases hb : b ∈ frs (envOfC qual scope s.heap.objs.size f cd :: outer)
    · obtain ⟨o2, q1, q2⟩ := frame_data stk b hb
      obtain ⟨sl, q3⟩ := k2 b o2 q1 q2
      exact ⟨_, q3⟩
    · exact ⟨o', k1 b o' q hb (.inl ⟨o, e⟩)⟩
  · refine (I.hok b u e).stay (fun c v hc q => k1 c v q (fun z => ?_) ?_) (fun _ q => q) fun _ _ q => q
    · have n := I.stkFree c z
      rcases hc with rfl | hc
      · rw [n] at e; cases e
      · rw [n] at hc; cases hc
    · rcases hc with rfl | hc
      · exact .inr ⟨u, e⟩
      · exact .inr ⟨_, hc⟩
abbrev mroV : List Value := [.type "ValueError", .type "Exception", .type "BaseException", .type "object"]
theorem ps_raise {Y : Cx} {G : Hp} {XE : Addr → Prop} {x : Str} {C : Addr} {np cpos pos : Pos} {arg : Expr} {ta : TE} (O : OwnCls x C mroV "ValueError.__new__" Y.mg Y.base) (hg : Gl Y x) (hcalm : Y.calm = true) (hex : Y.ex = []) (ha : PE (Y.wish (XW Y G XE)) arg ta) (hst : starEach [arg] Y.env = (false, eval arg Y.env) :: starEach [] Y.env := by rfl) (hpl : (backTo cpos (starEach [arg] Y.env)).any (·.1) = false := by rfl) (hdb : (x == ("__debug__" : Str)) = false := by decide)
    (hmo : ∀ σ H (P Q : V → Hp → Prop), (∀ v H, P v H → Q v H) → ta σ H P → ta σ H Q) :
    PS (Y.wish (XW Y G XE)) (.Raise (some (.Call (.Name x np) [arg] [] cpos)) none pos) (fun D σ H => ta σ H fun _ H' => Same G H' ∧ XE C) := by
  intro pins s σ H D I hta
  obtain ⟨tl, N, nm, q, bs, hdct, sn, sub, ab, col, dd, k0, k1, k2, k3, k5, mN, hC, hN, hni, T⟩ := O.obj
  refine wpAny_Raise_call_subT (C := C) (nm := nm) (q := q) (N := N) (bs := bs) (bm := tl) (hdct := hdct) (sn := sn) (sub := sub) (ab := ab) (col := col) (dd := dd) (k0 := k0) (k1 := k1) (k2 := k2) (k3 := k3) (k5 := k5)
    PySem.F.excBase_ValueError (mN := mN) (T.hasType PySem.F.excBase_ValueError.hasBase) (I.ok.hd hcalm) hpl hni (ld_glob I hg O.bound ⟨rfl, ?_⟩ hdb)
  have key := thn ((pa_cons (X := Y.wish (XW Y G XE)) ha pa_nil hst) cpos pins s σ H (fun vs H' => (Same G H' ∧ XE C) ∧ vs.length = 1) I (hmo σ H _ _ (fun v H' q => ⟨q, rfl⟩) hta)) (Q' := fun vs s2 => ∃ xs H2, Inv (Y.wish (XW Y G XE)) pins σ H2 s2 ∧ Vals xs vs ∧ (Same G H2 ∧ XE C) ∧ xs.length = 1) fun vs s2 ⟨xs, H2, I2, rv, sm, e2⟩ => ⟨xs, H2, I2, rv, sm, e2⟩
  have hb : ∃ z, backTo cpos (starEach [arg] Y.env) = (false, z) :: [] := by rw [hst]; exact ⟨_, rfl⟩
  obtain ⟨zz, hb⟩ := hb
  have hb' : backTo cpos (starEach [arg] (Y.wish (XW Y G XE)).env) = (false, zz) :: [] := hb
  rw [hb'] at key ⊢
  refine Calls.evalArgs_plain (thn key fun vs s2 ⟨xs, H2, I2, rv, ⟨sm, hx⟩, e2⟩ => ?_)
  have z : vs.length = 1 := by rw [← rv.length]; exact e2
  have bk := I2.bk
  refine ⟨rfl, by rw [z]; decide, bk _ _ hC, hN.keeps bk, T.keeps bk, fun h' e hm => ?_⟩
  obtain ⟨t, ht, hnt, ht2⟩ := hm.there
  have I3 : Inv (Y.wish (XW Y G XE)) pins σ H2 { s2 with heap := h' } := I2.kept (t' := s2.toks) hm.keeps
  have hfree : H2 e = none := by
    cases q : H2 e with
    | none => rfl
    | some u => obtain ⟨o, z⟩ := (I2.hok e u q).there; rw [hm.new] at z; cases z
  refine ⟨σ, H2, C, e, rfl, (I3.unwish).pins_of fun p hp => (I3.unwish).pin p (List.mem_append_left _ (by simpa using hp)), sm, ⟨hfree, ?_, _, _, ht, rfl, rfl, .inl rfl⟩, hx⟩
  cases q : Y.s₀.heap.get? e with
  | none => rfl
  | some u =>
    obtain ⟨o, z⟩ := I2.base.there e u q (by show e ∉ Y.ex; rw [hex]; simp)
    rw [hm.new] at z; cases z
inductive Out where
  | ok (r : R)
  | ex (C : Addr)
noncomputable abbrev DSpX := List R → Out → Prop
noncomputable def endX (K : PySem.W.Frag) (H : Hp) (Q : VK) (E : XK) : Out → Prop
  | .ok r => ∀ v H', Same H H' → IsR K H H' r v → Q v H'
  | .ex C => ∀ e H', Same H H' → E e (some C) H'
noncomputable def liftSpX (K : PySem.W.Frag) (n : Nat) (sp : DSpX) : Sp := fun vs H Q E => ∃ (rs : List R) (o : Out), rs.length = n ∧ AllR K (fun _ => none) H rs vs ∧ rs.all argOk = true ∧ sp (rs.map nrm) o ∧ endX K H Q E o
noncomputable abbrev FnX (P : Program) (w : World) (K : PySem.W.Frag) (mg : Str → Option Value) (base : Heap) (k : Nat) (f : Addr) (fd : FuncData) (ps : List Str) (sp : DSpX) : Prop := FnOk P w K mg base (CX1 P w) k f fd ps (liftSpX K ps.length sp)
noncomputable def XEof : Out → Addr → Prop
  | .ok _ => fun _ => False
  | .ex C => fun c => c = C
noncomputable def EndsO : Out → DEnds
  | .ok r => Ends1 r
  | .ex _ => { nx := fun _ => False, rt := fun _ => False, bk := fun _ => False, ct := fun _ => False }
noncomputable abbrev Cx.may (Y : Cx) (G : Hp) (XE : Addr → Prop) : Cx := Y.wish (XW Y G XE)
section
variable {P : Program} {w : World} {K : PySem.W.Frag} {mg : Str → Option Value} {base : Heap}
theorem Fun.okX {x qual : Str} {st : Stmt} {f : Addr} {fd : FuncData} {N ps : List Str} {k : Nat} {sp : DSpX} {ws : (Addr → Prop) → WS} (F : Fun K x qual st f fd) (S : FnScope N ps (defScope st))
    (hbody : ∀ (cdv : Value) (A : Around) (outer : List Env) (s : Shared) (H : Hp) (E : XK) (XE : Addr → Prop), Room k (A.deeper (envOfC qual (defScope st) s.heap.objs.size f cdv)) →
      DSs (Cx.may (cxOf (CX1 P w) P w K mg base N qual (defScope st) f cdv A outer s H E) H XE) H (defBody st) (ws XE))
    (hw : ∀ rs o, rs.length = ps.length → sp rs o → ws (XEof o) (EndsO o) (startD N rs)) : FnX P w K mg base (k + 1) f fd ps sp := by
  obtain ⟨oc, od, kV, doc, pm, an, cdv, ct, osl, rfl, lk, hcd⟩ := F.ex
  refine fn_of lk hcd S (fun vs H Q E h => ?_) fun A outer s H vs Q E hr h => ?_
  · obtain ⟨rs, o, hl, al, _⟩ := h
    rw [← al.length]; exact hl
  obtain ⟨rs, o, hl, al, ok, h1, h2⟩ := h
  have hd := hbody cdv A outer s H E (XEof o) hr
  have hw := hw (rs.map nrm) o (by rw [List.length_map]; exact hl) h1
  rw [startD_nrm] at hw
  have hE : ∀ C e H', XEof o C → Same H H' → E e (some C) H' := fun C e H' hx sm => by
    cases o with
    | ok r => exact False.elim hx
    | ex C' => cases (show C = C' from hx); exact h2 e H' sm
  refine ⟨_, fun pins s1 σ H1 D I hq => wpAny_mono (hd.ps pins s1 σ H1 D (I.wish _) hq) (fun _ _ q => q.unwish) fun e s2 q => xw_leave hE q, startD N rs, rep_start al ok, ?_⟩
  refine hd.mono _ _ _ ⟨fun τ h σ H' _ hR => ?_, fun r' h v H' sm ir => ?_, fun _ h => ?_, fun _ h => ?_⟩ hw
  · cases o with
    | ok r =>
      have h : r = .st .non := h
      subst h
      exact h2 .non H' hR.same (IsS.s_non (K := K) (H := H'))
    | ex C => exact False.elim h
  · cases o with
    | ok r =>
      have h : r' = r := h
      subst h
      exact h2 v H' sm ir
    | ex C => exact False.elim h
  · cases o <;> exact False.elim h
  · cases o <;> exact False.elim h
end
section
variable {Y : Cx} {XE : Addr → Prop} {H0 : Hp}
noncomputable def wRaise (XE : Addr → Prop) (C : Addr) (we : WE) : WS := fun _ τ => we τ fun _ => XE C
theorem DS.raise {x : Str} {C : Addr} {np cpos pos : Pos} {arg : Expr} {we : WE} (O : OwnCls x C mroV "ValueError.__new__" Y.mg Y.base) (hg : Gl Y x) (hcalm : Y.calm = true) (hex : Y.ex = []) (ha : DE (Cx.may Y H0 XE) H0 arg we) (hst : starEach [arg] Y.env = (false, eval arg Y.env) :: starEach [] Y.env := by rfl) (hpl : (backTo cpos (starEach [arg] Y.env)).any (·.1) = false := by rfl) (hdb : (x == ("__debug__" : Str)) = false := by decide) :
    DS (Cx.may Y H0 XE) H0 (.Raise (some (.Call (.Name x np) [arg] [] cpos)) none pos) (wRaise XE C we) where
  mono := fun τ _ _ _ h => h
  ps := psW (ps_raise O hg hcalm hex ha.pe hst hpl hdb (fun σ H P Q f ⟨τ, hR, h⟩ => ⟨τ, hR, ha.mono τ _ _ (fun r h v H' sm ir => f _ _ (h v H' sm ir)) h⟩)) fun D σ H ⟨τ, hR, h⟩ => ⟨τ, hR, ha.mono τ _ _ (fun r h v H' sm ir => ⟨hR.same.trans sm, h⟩) h⟩
theorem passX {G : Hp} (hex : Y.ex = []) : Passes (CX1 Y.prog Y.w) (Cx.may Y G XE) (wishX G XE) := by
  intro pins σ H s e s' I ⟨H', C, a, e1, os, bare, un, hok, F, C', e2, hx, sm2⟩
  cases e2
  have I2 : Inv (Cx.may Y G XE) pins σ H' s' := by
    obtain ⟨hh, g, d, t, os'⟩ := s'
    obtain rfl : os' = s.os := os
    exact I.call (h' := hh) (g' := g) (d' := d) (t' := t) (ch := []) un hok bare (fun b z => absurd z (by simp))
  have J := I2.unwish
  refine ⟨σ, H', C, a, e1, J.pins_of fun p hp => J.pin p (List.mem_append_left _ (by simpa using hp)), sm2, ⟨F.free, ?_, ?_⟩, hx⟩
  · cases q : Y.s₀.heap.get? a with
    | none => rfl
    | some u =>
      obtain ⟨o, z⟩ := I.base.there a u q (by show a ∉ Y.ex; rw [hex]; simp)
      rw [F.new] at z; cases z
  · obtain ⟨oe, vs, h1, h2, h3, h4⟩ := F.there
    refine ⟨oe, vs, h1, h2, h3, h4.imp id ?_⟩
    rintro ⟨T, oT, ts, a1, a2, a3, a4, a5, a6, a7⟩
    refine ⟨T, oT, ts, a1, a2, a3, ?_, a5, a6, a7⟩
    cases q : Y.s₀.heap.get? T with
    | none => rfl
    | some u =>
      obtain ⟨o, z⟩ := I.base.there T u q (by show T ∉ Y.ex; rw [hex]; simp)
      rw [a4] at z; cases z
noncomputable def outX (XE : Addr → Prop) (Q : R → Prop) : Out → Prop
  | .ok r => Q r
  | .ex C => XE C
noncomputable def wCallX (XE : Addr → Prop) (sp : DSpX) (wr : WA) : WE := fun τ Q => wr τ fun rs => rs.all argOk = true ∧ ∃ o, sp (rs.map nrm) o ∧ outX XE Q o
theorem DE.callX {k : Nat} {f : Addr} {fd : FuncData} {ps : List Str} {sp : DSpX} {x : Str} {p pos : Pos} {e : Expr} {es : List Expr} {wr : WA} (F : FnOk Y.prog Y.w Y.K Y.mg Y.base (CX1 Y.prog Y.w) k f fd ps (liftSpX Y.K (e :: es).length sp)) (hr : Room k Y.A) (hg : Gl Y x) (hm : Y.mg x = some (.ref f)) (hk : PySem.W.keepIn Y.K (.ref f) = true) (hb : Binds Y.K fd ps [])
    (ha : DA (Cx.may Y H0 XE) H0 (e :: es) wr) (hex : Y.ex = []) (hdb : (x == ("__debug__" : Str)) = false := by decide) (he : starEach (e :: es) Y.env = (false, eval e Y.env) :: starEach es Y.env := by rfl) (hpl : (backTo pos (starEach es Y.env)).any (·.1) = false := by rfl) :
    DE (Cx.may Y H0 XE) H0 (.Call (.Name x p) (e :: es) [] pos) (wCallX XE sp wr) where
  mono := fun τ P Q f h => ha.mono τ _ _ (fun rs ⟨ok, o, h1, h2⟩ => ⟨ok, o, h1, by cases o with | ok r => exact f r h2 | ex C => exact h2⟩) h
  pe := peW (pe_call (X := Cx.may Y H0 XE) F hr hg hm hk hb .nil (passX hex) ha.pa hdb he hpl) fun σ H Q ⟨τ, hR, h⟩ => ⟨τ, hR, ha.mono τ _ _ (fun rs ⟨hln, ok, o, h1, h2⟩ vs H1 s1 irs => by
    refine ⟨rs, o, hln, ?_, ok, h1, ?_⟩
    · rw [List.append_nil]
      exact irs.v
    · cases o with
      | ok r => exact fun v H' s2 ir => h2 v H' (s1.trans s2) (ir.older s1)
      | ex C => exact fun e H' s2 => ⟨C, rfl, h2, hR.same.trans (s1.trans s2)⟩) (ha.len τ _ h)⟩
end
end TK
end
section
set_option maxRecDepth 100000
namespace TK
open PySem PySem.Spec PyProof.Rows L2
section
variable {M : Model} {A : Around} {E : Value → Shared → Prop} {s : Shared} {P : Program} {w : World}
structure Noted (H : Hp) (g h h' : Heap) (fr : List Addr) (C a : Addr) : Prop where
  ch : ∃ ch : List Addr, (∀ b ∈ ch, H b = none ∧ g.get? b = none ∧ ∃ o vs, h.get? b = some o ∧ o.data = .fields vs) ∧ ∀ b o, h.get? b = some o → b ∉ fr → b ∉ ch → h'.get? b = some o
  slot : ∀ b o, h.get? b = some o → (∀ vs, o.data ≠ .fields vs) → ∃ sl, h'.get? b = some { o with slots := sl }
  fly : Fly H h' g C a
  tr : ∃ oe vs T oT ts, h'.get? a = some oe ∧ oe.cls = .ref C ∧ oe.data = .fields vs ∧ vs[1]? = some (.ref T) ∧ T ≠ a ∧ h'.get? T = some oT ∧ oT.data = .fields ts ∧ ts[3]? = some .none
theorem left_noted {H : Hp} {g h h' : Heap} {C a : Addr} {env : Env} {outer : List Env} {base : Heap} {as : List Addr} (hl : h.FunFrames base (env :: outer)) (hok : HOk P w H h) (hn : ∀ b o, g.get? b = some o → ∃ o', h.get? b = some o') (hfree : H a = none) (hnew : g.get? a = none)
    (h1 : ∀ b ∈ as, b ∉ frs (env :: outer) → H b = none ∧ g.get? b = none ∧ ∃ o vs, h.get? b = some o ∧ o.data = .fields vs) (h2 : ∀ b ∈ frs (env :: outer), b ∈ as)
    (x : Heap.Left (PySem.W.hideAll h as) (env :: outer) a (.ref C) h h') : Noted H g h h' (frs (env :: outer)) C a := by
  obtain ⟨x1, x2, x3, x4⟩ := x
  obtain ⟨oe', vs', T, oT, ts, e1, e2, e3, e4, e5, e6, e7, e8, e9⟩ := x3
  have hT2 : H T = none ∧ g.get? T = none := by
    cases hT : h.get? T with
    | none =>
      constructor
      · cases q : H T with
        | none => rfl
        | some u => obtain ⟨o, z⟩ := (hok T u q).there; rw [hT] at z; cases z
      · cases q : g.get? T with
        | none => rfl
        | some u => obtain ⟨o, z⟩ := hn T u q; rw [hT] at z; cases z
    | some o =>
      have hm : T ∈ as := by
        cases Classical.em (T ∈ as) with
        | inl z => exact z
        | inr z => rw [PySem.W.hideAll_get _ hT z] at e5; cases e5
      have hnf : T ∉ frs (env :: outer) := fun z => by
        obtain ⟨o2, q1, q2⟩ := frame_data hl T z
        obtain ⟨sl, q3⟩ := x4 T o2 q1 q2
        rw [e7] at q3; cases q3
        exact q2 _ e8
      exact ⟨(h1 T hm hnf).1, (h1 T hm hnf).2.1⟩
  refine ⟨⟨as.filter fun b => decide (b ∉ frs (env :: outer)), fun b hb => ?_, fun b o e hb hc => x1 b o (PySem.W.hideAll_get _ e fun hm => hc (List.mem_filter.mpr ⟨hm, decide_eq_true hb⟩))⟩, x4, ⟨hfree, hnew, oe', vs', e1, e2, e3, .inr ⟨T, oT, ts, e4, e6, hT2.1, hT2.2, e7, e8, e9⟩⟩, oe', vs', T, oT, ts, e1, e2, e3, e4, e6, e7, e8, e9⟩
  obtain ⟨q1, q2⟩ := List.mem_filter.mp hb
  exact h1 b q1 (of_decide_eq_true q2)
theorem fly_note {H : Hp} {g : Heap} {C a L : Addr} {env : Env} {outer : List Env} {base : Heap} {Q : Unit → Shared → Prop} (hfr : A.frames = some (env :: outer)) (hf : env.frame = some L) (hl : s.heap.FunFrames base (env :: outer))
    (F : Fly H s.heap g C a) (hok : HOk P w H s.heap) (hn : ∀ b o, g.get? b = some o → ∃ o', s.heap.get? b = some o')
    (k : ∀ h', Noted H g s.heap h' (frs (env :: outer)) C a → Q () { s with heap := h' }) : wpAny M A (noteFrame (.ref a) env) (fun _ s₂ => wpAny M A (setFlight (.ref a) none) Q E s₂) E s := by
  obtain ⟨oe, vs, he, hc, hd, tb⟩ := F.there
  rcases tb with h1 | ⟨T, oT, ts, h1, hTa, hHT, hnT, hT, hdT, h3⟩
  · unfold noteFrame
    simp only [hf]
    refine wpAny_bind (wpAny_field he hd h1 ?_)
    rw [if_neg (by decide)]
    refine wpAny_newEntry (base := PySem.W.hideAll s.heap (a :: frs (env :: outer))) hfr (frames_of hl fun b hb => PySem.W.hideAll_none _ (List.mem_cons_of_mem _ hb)) hf he (fun b o e => PySem.W.of_hideAll _ e) (PySem.W.hideAll_none _ List.mem_cons_self) hd (Array.getElem?_eq_some_iff.mp h1).1 fun h' x => k h' ?_
    rw [hc] at x
    refine left_noted hl hok hn F.free F.new (fun b hb hnb => ?_) (fun b hb => List.mem_cons_of_mem _ hb) x
    rcases List.mem_cons.mp hb with rfl | hb
    · exact ⟨F.free, F.new, oe, vs, he, hd⟩
    · exact absurd hb hnb
  · unfold noteFrame
    simp only [hf]
    refine wpAny_bind (wpAny_field he hd h1 ?_)
    rw [if_pos (show (Value.ref T != Value.none) = true from by simp)]
    refine wpAny_bind (wpAny_field hT hdT h3 ?_)
    rw [if_neg (show ¬ ((Value.none == rawInt L) = true) from by simp [rawInt])]
    refine wpAny_bind (wpAny_setField hT hdT (Array.getElem?_eq_some_iff.mp h3).1 ?_)
    have oth : ∀ b, b ≠ T → (s.heap.update T (Obj.mapFields (·.setIfInBounds 3 Value.none))).get? b = s.heap.get? b := fun b hb => Heap.get?_update_other _ _ (Ne.symm hb)
    have noR : ∀ b o, s.heap.get? b = some o → (∀ vs, o.data ≠ .fields vs) → b ≠ T := fun b o hb hnf q => by
      rw [q, hT] at hb; cases hb; exact hnf ts hdT
    refine wpAny_newEntry (base := PySem.W.hideAll s.heap (a :: T :: frs (env :: outer))) hfr ((frames_of hl fun b hb => PySem.W.hideAll_none _ (List.mem_cons_of_mem _ (List.mem_cons_of_mem _ hb))).of_keeps fun b o hb hnf => ⟨o, (oth b (noR b o hb hnf)).trans hb, rfl⟩) hf ((oth a (Ne.symm hTa)).trans he)
      (fun b o e => ?_) (PySem.W.hideAll_none _ List.mem_cons_self) hd (Array.getElem?_eq_some_iff.mp h1).1 fun h' x => k h' ?_
    · rw [oth b fun q => by rw [q, PySem.W.hideAll_none _ (List.mem_cons_of_mem _ List.mem_cons_self)] at e; cases e]
      exact PySem.W.of_hideAll _ e
    · rw [hc] at x
      obtain ⟨x1, x2, x3, x4⟩ := x
      refine left_noted (as := a :: T :: frs (env :: outer)) hl hok hn F.free F.new (fun b hb hnb => ?_) (fun b hb => List.mem_cons_of_mem _ (List.mem_cons_of_mem _ hb)) ⟨x1, x2, x3, fun b o hb hnf => x4 b o ((oth b (noR b o hb hnf)).trans hb) hnf⟩
      rcases List.mem_cons.mp hb with rfl | hb
      · exact ⟨F.free, F.new, oe, vs, he, hd⟩
      · rcases List.mem_cons.mp hb with rfl | hb
        · exact ⟨hHT, hnT, oT, ts, hT, hdT⟩
        · exact absurd hb hnb
end
section
variable {Y : Cx} {σ : St} {H : Hp} {s : Shared} {h' : Heap} {C a : Addr}
theorem HOk.noted {P : Program} {w : World} {fr : List Addr} {g : Heap} (N : Noted H g s.heap h' fr C a) (hok : HOk P w H s.heap) (hfr : ∀ b ∈ fr, H b = none) : HOk P w H h' := fun b u e => by
  obtain ⟨ch, c1, c2⟩ := N.ch
  have no : ∀ c v, H c = some v → c ∉ fr ∧ c ∉ ch := fun c v e => ⟨fun z => (by rw [hfr c z] at e; cases e), fun z => (by rw [(c1 c z).1] at e; cases e)⟩
  refine (hok b u e).stay (fun c v hc q => ?_) (fun _ q => q) fun _ _ q => q
  rcases hc with rfl | hc
  · exact c2 c v q (no c u e).1 (no c u e).2
  · exact c2 c v q (no c _ hc).1 (no c _ hc).2
theorem inv_noted {t' : Nat} (hpn : Y.pn = []) (I : Inv Y [] σ H s) (N : Noted H Y.s₀.heap s.heap h' (frs Y.stack) C a) (hst : Y.stack = Y.env :: Y.outer ∧ Y.env.frame = some Y.env.locals) : Inv Y [] σ H { s with heap := h', toks := t' } := by
  obtain ⟨ch, c1, c2⟩ := N.ch
  have inF : ∀ b, b ∈ frs Y.stack → b = Y.env.locals ∨ b ∈ Y.fs := fun b hb => by
    rw [hst.1] at hb
    unfold frs at hb
    rw [List.filterMap_cons, hst.2] at hb
    exact List.mem_cons.mp hb
  have toF : ∀ b, b ∈ Y.fs → b ∈ frs Y.stack := fun b hb => by
    rw [hst.1]
    unfold frs
    rw [List.filterMap_cons, hst.2]
    exact List.mem_cons_of_mem _ hb
  have old : ∀ b o, Y.s₀.heap.get? b = some o → b ≠ Y.env.locals ∧ b ∉ ch := fun b o e => ⟨Nat.ne_of_lt (Nat.lt_of_lt_of_le (Heap.lt_size e) I.ok.above), fun z => (by rw [(c1 b z).2.1] at e; cases e)⟩
  have cellK : ∀ c v, s.heap.IsCell c v → h'.IsCell c v := fun c v ⟨o, ho, hd⟩ => by
    obtain ⟨sl, q⟩ := N.slot c o ho (fun vs z => by rw [hd] at z; cases z)
    exact ⟨_, q, hd⟩
  refine ⟨I.ok, I.os, I.bare, ⟨fun b o e n hb hx => ?_, fun b o e n hb hx => ?_, I.base.free, fun b o e hx => ?_, I.base.tups, I.base.frzs, I.base.tbls⟩, ?_, fun x c e => ?_, I.free, I.freeC, fun p hp => ?_, HOk.noted N I.hok I.stkFree, I.len⟩
  · refine c2 b o (I.base.keep b o e n hb hx) (fun z => ?_) (old b o e).2
    rcases inF b z with z | z
    · exact (old b o e).1 z
    · exact hb z
  · obtain ⟨sl, q⟩ := I.base.slot b o e n hb hx
    obtain ⟨o2, q1, q2⟩ := frame_data I.stack b (toF b hb)
    rw [q] at q1; cases q1
    obtain ⟨sl2, q3⟩ := N.slot b _ q q2
    exact ⟨sl2, q3⟩
  · obtain ⟨o', q⟩ := I.base.there b o e hx
    by_cases hb : b ∈ frs Y.stack
    · obtain ⟨o2, q1, q2⟩ := frame_data I.stack b hb
      obtain ⟨sl, q3⟩ := N.slot b o2 q1 q2
      exact ⟨_, q3⟩
    · exact ⟨o', c2 b o' q hb (old b o e).2⟩
  · obtain ⟨m, ⟨o, es, ep, ho, hd, hr⟩, hl⟩ := I.loc
    obtain ⟨sl, q⟩ := N.slot _ o ho (fun vs z => by rw [hd] at z; cases z)
    refine ⟨m, ⟨_, es, ep, q, hd, hr⟩, fun i x v e1 e2 e3 => ?_⟩
    obtain ⟨u, r, l⟩ := hl i x v e1 e2 e3
    refine ⟨u, r, ?_⟩
    rcases l with l | ⟨k, c, e, z⟩
    · exact .inl l
    · exact .inr ⟨k, c, e, cellK c _ z⟩
  · obtain ⟨v, z⟩ := I.cell x c e
    exact ⟨v, cellK c v z⟩
  · rw [hpn] at hp; cases hp
end
theorem exc_match {M : Model} {A : Around} {E : Value → Shared → Prop} {h : Heap} {g : Array GenState} {d : Drawn} {t : Nat} {os : OsState} {e C D NC ND : Addr} {oe : Obj} {nC qC nD qD : Str} {bsC bmC bsD bmD : List Value} {hdC hdD : Bool} {snC snD : List Str} {subC subD : List Value} {abC abD : Bool} {colC colD : Option Bool} {ddC ddD : Option Addr}
    {k0 k1 k2 k3 k5 j0 j1 j2 j3 j5 : Option Value} {idC idD : String} {Q : Bool → Shared → Prop} (hC : h.get? C = some (excClassObj nC qC C NC bsC bmC hdC snC subC abC colC ddC k0 k1 k2 k3 k5 idC)) (hD : h.get? D = some (excClassObj nD qD D ND bsD bmD hdD snD subD abD colD ddD j0 j1 j2 j3 j5 idD))
    (he : h.get? e = some oe) (hcls : oe.cls = .ref C) (hbase : bmD.contains (.type "BaseException") = true) {b : Bool} (hin : (Value.ref C :: bmC).contains (.ref D) = b) (hq : Q b ⟨h, g, d, t, os⟩) : wpAny M A (excMatches (.ref e) (.ref D)) Q E ⟨h, g, d, t, os⟩ := by
  have hcB : (Value.ref D :: bmD).contains (.type "BaseException") = true := by rw [List.contains_cons, hbase, Bool.or_true]
  have f := tc_notTuple
  unfold excMatches
  cases b with
  | true =>
    repeat (first | (with_reducible refine wpAny_isSubtype_exc hD ?_; rw [hcB]) | (with_reducible refine wpAny_loadPart_at he ?_; rw [hcls]) | with_reducible refine wpAny_loadPart_at hD ?_ | (with_reducible refine wpAny_isSubtype_exc hC ?_; rw [hin]) | with_reducible refine wpAny_loadPart_at hC ?_ | wp_step)
    exact hq
  | false =>
    repeat (first | (with_reducible refine wpAny_isSubtype_exc hD ?_; rw [hcB]) | (with_reducible refine wpAny_loadPart_at he ?_; rw [hcls]) | with_reducible refine wpAny_loadPart_at hD ?_ | (with_reducible refine wpAny_isSubtype_exc hC ?_; rw [hin]) | with_reducible refine wpAny_loadPart_at hC ?_ | wp_step)
    exact hq
end TK
end
section
set_option maxRecDepth 100000
namespace TK
open PySem PySem.Spec PyProof.Rows L2
noncomputable abbrev _root_.L2.Cx.hand (Y : Cx) (a : Addr) (pn : List (Addr × Obj)) : Cx := { Y with A := Y.A.mark (some (.ref a)), calm := false, pn := pn, xe := fun _ _ => False }
noncomputable abbrev noneS (Y : Cx) : St := List.replicate Y.N.length none
section
variable {Y : Cx} {σ : St} {H : Hp} {s : Shared} {a : Addr} {pn : List (Addr × Obj)}
theorem ok_hand (ok : Y.Ok) : (Y.hand a pn).Ok :=
  ⟨ok.mod, ok.kind, ok.glob, ok.blt, ok.above, ok.inj, ok.has, ok.cab, fun z => (by cases z), ok.frames, ok.stk, ok.exf, ok.bs, ok.bsz, ok.noex, ok.exfs, ok.funs, ok.frf⟩
theorem none_at {Y : Cx} {i : Nat} {v : V} (h : (noneS Y)[i]? = some (some v)) : False := by
  rw [List.getElem?_replicate] at h
  split at h <;> cases h
theorem inv_hand (I : Inv Y [] σ H s) (hp : ∀ p ∈ pn, s.heap.get? p.1 = some p.2 ∧ H p.1 = none ∧ p.1 ≠ Y.env.locals ∧ p.1 ∉ Y.fs ∧ ∀ v, p.2.data ≠ .cell v) : Inv (Y.hand a pn) [] (noneS Y) H s := by
  obtain ⟨m, hn, _⟩ := I.loc
  exact ⟨ok_hand I.ok, I.os, I.bare, I.base, ⟨m, hn, fun i x v _ e _ => (none_at e).elim⟩, I.cell, I.free, I.freeC, fun p q => hp p (by simpa using q), I.hok, by simp⟩
theorem inv_unhand {h' : Heap} {m' : Str → Option Value} {t' : Nat} (ok : Y.Ok) (hpn : Y.pn = []) (I : Inv (Y.hand a pn) [] σ H s) (hn : h'.Ns Y.env.locals m') (hs : Heap.SameBut Y.env.locals s.heap h') : Inv Y [] (noneS Y) H { s with heap := h', toks := t' } := by
  have J : Inv Y [] (noneS Y) H s := ⟨ok, I.os, I.bare, I.base, (let ⟨m, q, _⟩ := I.loc; ⟨m, q, fun i x v _ e _ => (none_at e).elim⟩), I.cell, I.free, I.freeC, fun p q => (by rw [hpn] at q; cases q), I.hok, by simp⟩
  have kp : ∀ b o, b ≠ Y.env.locals → s.heap.get? b = some o → h'.get? b = some o := fun b o hb e => hs.extBut b o hb e
  refine ⟨ok, J.os, J.bare, ⟨fun b o e n hb hx => ?_, fun b o e n hb hx => ?_, J.base.free, fun b o e hx => ?_, J.base.tups, J.base.frzs, J.base.tbls⟩, ⟨m', hn, fun i x v _ e _ => (none_at e).elim⟩, fun x c e => ?_, J.free, J.freeC, fun p q => (by rw [hpn] at q; cases q), fun b u e => ?_, by simp⟩
  · exact kp b o (Nat.ne_of_lt (Nat.lt_of_lt_of_le (Heap.lt_size e) ok.above)) (J.base.keep b o e n hb hx)
  · obtain ⟨sl, q⟩ := J.base.slot b o e n hb hx
    exact ⟨sl, kp b _ (Nat.ne_of_lt (Nat.lt_of_lt_of_le (Heap.lt_size e) ok.above)) q⟩
  · obtain ⟨o', q⟩ := J.base.there b o e hx
    exact ⟨o', kp b _ (Nat.ne_of_lt (Nat.lt_of_lt_of_le (Heap.lt_size e) ok.above)) q⟩
  · obtain ⟨v, o, ho, hd⟩ := J.cell x c e
    exact ⟨v, o, kp c o (J.cne x c e) ho, hd⟩
  · have fr : ∀ c v, H c = some v → c ≠ Y.env.locals := fun c v e z => by rw [z, J.free] at e; cases e
    refine (J.hok b u e).stay (fun c v hc q => kp c v ?_ q) (fun _ q => q) fun _ _ q => q
    rcases hc with rfl | hc
    · exact fr c u e
    · exact fr c _ hc
end
noncomputable def Below (h : Heap) (C D : Addr) : Prop := ∃ nC qC NC bsC bmC hdC snC subC abC colC ddC k0 k1 k2 k3 k5 idC, h.get? C = some (excClassObj nC qC C NC bsC bmC hdC snC subC abC colC ddC k0 k1 k2 k3 k5 idC) ∧ (Value.ref C :: bmC).contains (.ref D) = true
theorem try_as {Y : Cx} {G : Hp} {XE : Addr → Prop} {Z : Value → Shared → Prop} {σ : St} {H : Hp} {s : Shared} (hpn : Y.pn = []) (hex : Y.ex = []) (hst : Y.stack = Y.env :: Y.outer ∧ Y.env.frame = some Y.env.locals) {n xD : Str} {i : Nat} {D : Addr} {idD : String} (hN : Y.N.Nodup) (hi : Y.N[i]? = some n) (hloc : Y.env.kindOf n = some .local)
    (OD : OwnCls xD D mroV idD Y.mg Y.base) (hgD : Gl Y xD) (hsub : ∀ C, XE C → Below Y.base C D) {body : List Stmt} {b₀ : Stmt} {suite : List Stmt} {tb : TS} {th : Addr → Addr → TS} {np hpos pos : Pos} (hb : PSs (Cx.may Y G XE) body tb)
    (hs : ∀ C a pn, XE C → (∃ oe, (a, oe) ∈ pn ∧ oe.cls = .ref C) → PSs (Y.hand a pn) (b₀ :: suite) (th C a)) {E : Ends} (I : Inv Y [] σ H s) (hq1 : tb E σ H)
    (hq2 : ∀ C a H', XE C → Same G H' → th C a { nx := fun _ H'' => E.nx (noneS Y) H'', rt := E.rt, bk := fun _ _ => False, ct := fun _ _ => False } ((noneS Y).set i (some (.ref a))) H') (hdb : (xD == ("__debug__" : Str)) = false := by decide) :
    wpAny (model Y.prog Y.w) Y.A (exec (.Try body [.ExceptHandler (some (.Name xD np)) (some n) (b₀ :: suite) hpos] [] [] pos) Y.env) (SP Y [] E) Z s := by
  have noA : ∀ b : Addr, b ∉ Y.ex := fun b z => by rw [hex] at z; cases z
  refine wpAny_Try_except (wpAny_mono (hb [] s σ H E (I.wish _) hq1) (fun f s₁ q => ?_) fun e s₁ q => ?_)
  · have q := q.unwish
    cases f with
    | next => exact wpAny_pure q
    | brk => exact q
    | cont => exact q
    | ret u => exact q
  · obtain ⟨σ₁, H₁, C, a, rfl, I₁, sm, F, hx⟩ := q
    have hfr : Y.A.frames = some (Y.env :: Y.outer) := by rw [← hst.1]; exact I₁.ok.frames
    have stk : s₁.heap.FunFrames Y.base (Y.env :: Y.outer) := by rw [← hst.1]; exact I₁.stack
    refine fly_note (P := Y.prog) (w := Y.w) (g := Y.s₀.heap) hfr hst.2 stk F I₁.hok (fun b o e => I₁.base.there b o e (noA b)) fun h' N => ?_
    have N' : Noted H₁ Y.s₀.heap s₁.heap h' (frs Y.stack) C a := by rw [hst.1]; exact N
    have I₂ : Inv Y [] σ₁ H₁ { s₁ with heap := h' } := inv_noted (t' := s₁.toks) hpn I₁ N' hst
    have I₃ : Inv (Y.hand a []) [] (noneS Y) H₁ { s₁ with heap := h' } := inv_hand I₂ (by simp)
    obtain ⟨nC, qC, NC, bsC, bmC, hdC, snC, subC, abC, colC, ddC, k0, k1, k2, k3, k5, idC, hC, hin⟩ := hsub C hx
    obtain ⟨tl, ND, nD, qD, bsD, hdD, snD, subD, abD, colD, ddD, j0, j1, j2, j3, j5, mN, hD, hN2, hni, T2⟩ := OD.obj
    obtain ⟨oe, vs, T, oT, ts, he, hc, hd, h1, hTa, hT, hdT, h3⟩ := N.tr
    refine wpAny_handleBy_cons (codeAny_handlers_test (ld_glob (X := Y.hand a []) I₃ hgD OD.bound ?_ hdb)) (by intro q; cases q)
    refine exc_match (I₃.bk _ _ hC) (I₃.bk _ _ hD) he hc (T2.hasType PySem.F.excBase_ValueError.hasBase) hin ?_
    refine codeAny_handlers_suite_as (wpAny_setFlight_none (tb := T) (vs := vs) he hd h1 hT hdT (Array.getElem?_eq_some_iff.mp h3).1 ?_)
    have hT2 : H₁ T = none ∧ Y.s₀.heap.get? T = none := by
      obtain ⟨oe', vs', q1, q2, q3, q4⟩ := N.fly.there
      rw [he] at q1; cases q1
      rw [hd] at q3; cases q3
      rcases q4 with q4 | ⟨T', oT', ts', q4, _, q6, q7, _⟩
      · rw [h1] at q4; cases q4
      · rw [h1] at q4; cases q4
        exact ⟨q6, q7⟩
    have oth : ∀ b, b ≠ T → (h'.update T (Obj.mapFields (·.setIfInBounds 3 Value.none))).get? b = h'.get? b := fun b hb => Heap.get?_update_other _ _ (Ne.symm hb)
    have hT' := Heap.get?_update_self (Obj.mapFields (·.setIfInBounds 3 Value.none)) hT (Obj.isFreed_of_fields (Obj.data_mapFields hdT _))
    have hdT' : (Obj.mapFields (·.setIfInBounds 3 Value.none) oT).data = .fields (ts.setIfInBounds 3 .none) := Obj.data_mapFields hdT _
    have h3' : (ts.setIfInBounds 3 Value.none)[3]? = some Value.none := by
      have := (Array.getElem?_eq_some_iff.mp h3).1
      simp [Array.getElem?_setIfInBounds, this]
    have he' : (h'.update T (Obj.mapFields (·.setIfInBounds 3 Value.none))).get? a = some oe := (oth a (Ne.symm hTa)).trans he
    have N2 : Noted H₁ Y.s₀.heap h' (h'.update T (Obj.mapFields (·.setIfInBounds 3 Value.none))) (frs Y.stack) C a := by
      refine ⟨⟨[T], fun b hb => ?_, fun b o e _ hb => ?_⟩, fun b o e hnf => ?_, ⟨N.fly.free, N.fly.new, oe, vs, he', hc, hd, .inr ⟨T, _, _, h1, hTa, hT2.1, hT2.2, hT', hdT', h3'⟩⟩, oe, vs, T, _, _, he', hc, hd, h1, hTa, hT', hdT', h3'⟩
      · cases List.mem_singleton.mp hb
        exact ⟨hT2.1, hT2.2, oT, ts, hT, hdT⟩
      · rw [oth b (fun z => hb (List.mem_singleton.mpr z))]; exact e
      · refine ⟨o.slots, ?_⟩
        rw [oth b (fun z => by rw [z, hT] at e; cases e; exact hnf _ hdT)]
        exact e
    have I₄ := inv_noted (t' := s₁.toks) (h' := h'.update T (Obj.mapFields (·.setIfInBounds 3 Value.none))) hpn I₂ N2 hst
    have pinOk : ∀ (b : Addr) (o : Obj) (us : Array Value), (h'.update T (Obj.mapFields (·.setIfInBounds 3 Value.none))).get? b = some o → o.data = .fields us → H₁ b = none → (h'.update T (Obj.mapFields (·.setIfInBounds 3 Value.none))).get? b = some o ∧ H₁ b = none ∧ b ≠ Y.env.locals ∧ b ∉ Y.fs ∧ ∀ v, o.data ≠ .cell v := fun b o us e hd hH => by
      refine ⟨e, hH, fun z => ?_, fun z => ?_, fun v z => by rw [hd] at z; cases z⟩
      · obtain ⟨m, ⟨o2, es, ep, q1, q2, _⟩, _⟩ := I₄.loc
        rw [← z] at q1
        cases (e.symm.trans q1)
        rw [hd] at q2; cases q2
      · obtain ⟨o2, q1, q2⟩ := frame_data I₄.funs b z
        cases (e.symm.trans q1)
        exact q2 _ hd
    have I₅ : Inv (Y.hand a [(a, oe), (T, _)]) [] (noneS Y) H₁ _ := inv_hand I₄ (fun p hp => by
      rcases List.mem_cons.mp hp with rfl | hp
      · exact pinOk a oe vs he' hd N.fly.free
      · cases List.mem_singleton.mp hp
        exact pinOk T _ _ hT' hdT' hT2.1)
    refine store_ok2 (X := Y.hand a _) (u := .ref a) (v := .ref a) I₅ hN hi (.inl hloc) rfl (fun s₅ I₆ _ => ?_) (.inr hloc)
    refine wpAny_mono (hs C a _ hx ⟨oe, List.mem_cons_self, hc⟩ [] s₅ _ H₁ _ I₆ (hq2 C a H₁ hx sm)) (fun f s₆ q => ?_) fun _ _ z => False.elim z
    have hcls : (Y.env.scope.kind == .class || (Y.env.scope.kind == .module && Y.env.locals != Y.env.globals)) = false := by rw [I₁.ok.kind]; rfl
    cases f with
    | next =>
      obtain ⟨σ', H', J, q⟩ := q
      obtain ⟨m, hn, _⟩ := J.loc
      exact wpAny_nameGoes hloc hn hcls fun h7 m7 hn7 hs7 => ⟨noneS Y, H', inv_unhand I₁.ok hpn J hn7 hs7, q⟩
    | ret u =>
      obtain ⟨v, σ', H', J, r, q⟩ := q
      obtain ⟨m, hn, _⟩ := J.loc
      exact wpAny_nameGoes hloc hn hcls fun h7 m7 hn7 hs7 => ⟨v, noneS Y, H', inv_unhand I₁.ok hpn J hn7 hs7, r, q⟩
    | brk => obtain ⟨_, _, _, q⟩ := q; exact False.elim q
    | cont => obtain ⟨_, _, _, q⟩ := q; exact False.elim q
end TK
end
section
set_option maxRecDepth 100000
namespace TK
open PySem PySem.Spec PyProof.Rows L2
theorem own_cls {K : PySem.W.Frag} {h : Heap} {mg : Str → Option Value} {x : Str} {C : Addr} {bmB : List Value} {id : String} (X : K.In h) (hm : mg x = some (.ref C)) (q : PySem.W.excIn K C bmB id = true) : OwnCls x C bmB id mg h := by
  constructor
  · exact hm
  · unfold PySem.W.excIn at q
    cases hk : K.lookup C with
    | none => rw [hk] at q; cases q
    | some o =>
      rw [hk] at q
      obtain ⟨cls, dict, data, slots⟩ := o
      split at q
      · rename_i cdd sll e
        cases e
        split at q
        · rename_i bm a0 a1 a2 a3 nid a5 hm2 hs2
          simp only [Bool.and_eq_true, beq_iff_eq, Bool.not_eq_true'] at q
          obtain ⟨⟨⟨⟨⟨r1, r2⟩, r3⟩, r4⟩, r5⟩, r6⟩ := q
          subst r1 r2
          obtain ⟨c1, c2, c3, c4, c5, c6, c7, c8, c9, c10, c11⟩ := cdd
          dsimp only at hm2 r3 r5 r6
          subst hm2 r3
          obtain ⟨sl⟩ := slots
          have hs3 : sl = _ := hs2
          subst hs3
          exact ⟨_, _, _, _, _, _, _, _, _, _, _, _, _, _, _, _, _, X _ _ hk, .of_isNs (PySem.W.isNs_of_in X r5), PySem.W.nsMap_none_of_in X r5 r6, PySem.W.tail_of_in X r4⟩
        · cases q
      · cases q
theorem fn_of0 {CX : CXT} {P : Program} {w : World} {K : PySem.W.Frag} {mg : Str → Option Value} {base : Heap} {k : Nat} {f : Addr} {name qual : Str} {params : Arguments} {body : List Stmt} {scope : Scope} {dV kV doc pm cdv ct oc : Value} {an od : Option Addr}
    {osl : Array (Option Value)} {N ps : List Str} {sp : Sp} (lk : K.lookup f = some ⟨oc, od, .func (PySem.W.fnOf name qual params body scope dV kV doc pm an cdv ct), osl⟩) (hcd : PySem.W.codeIn K cdv qual = true) (S : FnScope N ps scope)
    (len : ∀ vs H Q E, sp vs H Q E → vs.length = ps.length)
    (hbody : ∀ (A : Around) (outer : List Env) (s : Shared) (H : Hp) (vs : List V) (Q : VK) (E : XK), Room k (A.deeper (envOfC qual scope s.heap.objs.size f cdv)) → sp vs H Q E →
      ∀ s1, Inv (cxOf CX P w K mg base N qual scope f cdv A outer s H E) [] (L2.start N vs) H s1 → wpAny (model P w) (A.deeper (envOfC qual scope s.heap.objs.size f cdv)) (execs body (envOfC qual scope s.heap.objs.size f cdv)) (SP (cxOf CX P w K mg base N qual scope f cdv A outer s H E) [] { nx := fun _ H' => Q .non H', rt := Q }) (cxOf CX P w K mg base N qual scope f cdv A outer s H E).xe s1) :
    FnOk P w K mg base CX (k + 1) f (PySem.W.fnOf name qual params body scope dV kV doc pm an cdv ct) ps sp := by
  refine ⟨len, fun A outer s H args us vs Q E hr e0 hb r hsp => ?_⟩
  have hl := len _ _ _ _ hsp
  have KX : K.In s.heap := e0.mod.kin.keeps fun b o e => (e0.bs b o e).1
  have lim : s.heap.NoLimit := e0.mod.nolimit.keeps fun b o e => (e0.bs b o e).1
  have hkind : ∀ y ∈ ps.zip us, scope.names.lookup y.1 = some .local ∨ (scope.names.lookup y.1 = some .cell ∧ ((cellsFrom (s.heap.objs.size + 1) scope.names []).lookup y.1).isSome = true) := fun ⟨n, v⟩ hy => by
    rcases S.par n (List.of_mem_zip hy).1 with q | q
    · exact .inl q
    · exact .inr ⟨q, PySem.W.cellsFrom_some _ _ _ (.inl q)⟩
  refine codeAny_call_function hr.depth (KX _ _ lk) rfl S.co S.gen rfl (PySem.W.codeRec_of KX hcd) (hb _ _ _ _ ?_)
  refine wpAny_newFunctionEnv_cells S.kind hkind fun env he s1 x => ?_
  subst he
  refine ⟨lim.keeps x.toInCall.keep, codeAny_func ?_⟩
  have I : Inv (cxOf CX P w K mg base N qual scope f cdv A outer s H E) [] (L2.start N vs) H s1 := inv_start S hr.hd e0 hl r x
  refine wpAny_mono (hbody A outer s H vs Q E (hr.deeper _) hsp s1 I) (fun fl s' hs => ?_) fun e s' hs => hs
  have fin : ∀ {σ' : St} {H' : Hp} {v : V} {u : Value}, Inv (cxOf CX P w K mg base N qual scope f cdv A outer s H E) [] σ' H' s' → RelV v u → Q v H' → CE outer P w H s Q u s' :=
    fun {σ' H' v u} J rv q => ⟨v, H', J.os, J.bare, J.base, J.hok, rv, q⟩
  cases fl with
  | ret u =>
    obtain ⟨v, σ', H', J, rv, q⟩ := hs
    exact fin J rv q
  | next =>
    obtain ⟨σ', H', J, q⟩ := hs
    exact fin (v := V.non) (u := Value.none) J rfl q
  | brk =>
    obtain ⟨_, _, _, q⟩ := hs
    exact False.elim q
  | cont =>
    obtain ⟨_, _, _, q⟩ := hs
    exact False.elim q
end TK
end
section
set_option maxRecDepth 100000
set_option maxHeartbeats 1000000
namespace PySem.W
open PySem PySem.Spec PySem.Calls PyProof.Rows
open Builtin Builtin.ObjectAttr Builtin.Getset_descriptor
structure ExcK (K : Frag) (C : Addr) : Prop where
  ga : findIn K (.ref C) "__getattribute__" = some (some (.builtin "BaseException.__getattribute__"))
  hk : findIn K (.ref C) "__getattr__" = some none
  ha : findIn K (.ref C) "__class__" = some (some (.builtin "object.__class__"))
  hn : specialIn K (.builtin "object.__class__") "__get__" = some (some (.builtin "getset_descriptor.__get__"))
  htk : takesIn K (.builtin "object.__class__") = some true
  mo : mroIn K C (.type "object") = some true
  mb : mroIn K C (.type "BaseException") = some true
section
variable {prog : Program} {w : World} {A : Around} {E : Value → Shared → Prop} {s : Shared} {K : Frag} {x C : Addr} {o : Obj}
theorem exc_ty {M : Model} {h : Heap} (hx : h.get? x = some o) (hc : o.cls = .ref C) : Looks M h (typeOf (.ref x)) (.ref C) := hc ▸ (Looks.ld hx).andThen .now
theorem exc_find {M : Model} {h : Heap} (Z : ExcK K C) (X : K.In h) : Looks M h (find (.ref x) (.ref C) "__class__") (.bind (.builtin "getset_descriptor.__get__") (.builtin "object.__class__")) := by
  have L1 := looks_findIn (M := M) X Z.ha
  have L2 : Looks M h (getOf (some (.builtin "object.__class__"))) (some (.builtin "getset_descriptor.__get__")) := looks_specialIn X Z.hn
  have L3 := looks_takesIn (M := M) X Z.htk
  unfold find
  refine L1.andThen (L2.andThen ?_)
  refine Looks.andThen (a := some (.builtin "getset_descriptor.__get__", .builtin "object.__class__")) ?_ (Looks.tag .now)
  unfold dataDescriptor?
  exact L3.andThen .now
theorem exc_class_get {tp : Value} {R : Result → Shared → Prop} (Z : ExcK K C) (X : K.In s.heap) (hx : s.heap.get? x = some o) (hc : o.cls = .ref C)
    (h : R (.ok (.ret (.ref C))) s) : codeAny (model prog w) A (.call (.builtin "getset_descriptor.__get__") ⟨[.builtin "object.__class__", .ref x, tp], []⟩) R s := by
  obtain ⟨hh, g, dr, t, os⟩ := s
  have L0 := exc_ty (M := model prog w) hx hc
  have L1 := looks_mroIn (M := model prog w) X Z.mo
  refine codeAny_call_builtin KF.slot_gs.plain KF.entry_gs (KF.slot_gs.check _ _ _ _ _ _ _ _ KF.type_class (KF.args_gs _ _ _) ?_)
  unfold Builtin.«getset_descriptor.__get__» descrGet
  rw [dga_obj]
  refine wpAny_bind (wpAny_pure ?_)
  unfold descrGetter descrCheckInstance descrNameAndClass isInstance
  simp only [KF.owner_class]
  repeat lk
  refine ⟨Code.quiet_builtin _ (by decide +kernel), codeAny_builtin KF.entry_class ?_⟩
  unfold Builtin.«object.__class__» shownTypeOf
  repeat lk
  exact h
theorem exc_class_attr {Q : Option Value → Shared → Prop} (Z : ExcK K C) (X : K.In s.heap) (hx : s.heap.get? x = some o) (hc : o.cls = .ref C) (h : Q (some (.ref C)) { s with toks := s.toks + 1 }) :
    wpAny (model prog w) A (getAttr? (.ref x) "__class__") Q E s := by
  obtain ⟨hh, g, d, t, os⟩ := s
  have L0 := exc_ty (M := model prog w) hx hc
  have L1 := looks_findIn (M := model prog w) X Z.ga
  have L2 := looks_findIn (M := model prog w) X Z.hk
  have L3 := exc_find (M := model prog w) (x := x) Z X
  have L4 := looks_mroIn (M := model prog w) X Z.mb
  unfold getAttr? getAttrBy? getAttrBy
  refine wpAny_bind (wpAny_mkText (wpAny_bind (wpAny_attempt (wpAny_holding (wpAny_bind (L0.at (wpAny_bind (L1.at ?_))))))))
  have hx1 : (onTheHeap (Value.ref C) && Value.builtin "BaseException.__getattribute__" == Value.builtin "object.__getattribute__") = false := by
    have hx2 : (Value.builtin "BaseException.__getattribute__" == Value.builtin "object.__getattribute__") = false := by decide +kernel
    rw [hx2]; rfl
  show wpAny _ _ (if (onTheHeap (Value.ref C) && Value.builtin "BaseException.__getattribute__" == Value.builtin "object.__getattribute__") = true then _ else _) _ _ _
  rw [if_neg (by rw [hx1]; decide)]
  unfold getAttrByItsOwn hookBefore
  show wpAny _ _ (typeLookup (.ref C) "__getattr__" >>= _) _ _ _
  refine wpAny_bind (L2.at ?_)
  refine wpAny_bind (wpAny_attempt (wpAny_holding ?_))
  show wpAny _ _ (boundAndCalled (.builtin "BaseException.__getattribute__") (.ref x) (.str "__class__" t)) _ _ _
  unfold boundAndCalled
  rw [F.attr_ValueError.ga.bind (.ref x)]
  refine wpAny_bind (wpAny_pure ?_)
  refine wpAny_call (codeAny_call_builtin F.attr_ValueError.ga.plain F.entry_bexc_ga ?_)
  have hk : builtinKind "BaseException.__getattribute__" = some .slot := by decide +kernel
  have hsplit : splitId "BaseException.__getattribute__" = some ("BaseException", "__getattribute__") := by decide +kernel
  have ha := F.args_bexc_ga (.ref x) (.str "__class__" t)
  simp only [checkBuiltinCall, hk, hsplit]
  refine wpAny_bind ?_
  unfold isInstance
  repeat (any_goals (first | assumption | with_reducible refine L0.at ?_ | with_reducible refine L4.at ?_ | with_reducible refine L3.at ?_ | wp_step))
  refine exc_class_get Z X hx hc ?_
  repeat (any_goals (first | assumption | wp_step))
theorem kitx_exc (Z : ExcK K C) : KitX K (.ref x) (.ref C) (fun h => ∃ o, h.get? x = some o ∧ o.cls = .ref C) where
  ty := fun M h _ ⟨o, h1, h2⟩ => exc_ty h1 h2
  it := fun _ _ X _ => by
    obtain ⟨cdD, hcD, _⟩ := Option.bind_eq_some_iff.mp Z.mo
    unfold clsIn at hcD
    split at hcD
    · rename_i c' d' cd' sl' ho
      intro A' Q' E' s' k q
      unfold isType loadHead
      exact wpAny_bind (wpAny_loadPart (k _ _ (X _ _ ho)) (wpAny_pure q))
    · cases hcD
  ne := fun h tp dd its n sl X htp => by
    obtain ⟨cdD, hcD, _⟩ := Option.bind_eq_some_iff.mp Z.mo
    refine Bool.eq_false_iff.mpr fun q => ?_
    have e : C = tp := Value.ref.inj (beq_iff_eq.mp q)
    subst e
    unfold clsIn at hcD
    split at hcD
    · rename_i c' d' cd' sl' ho
      have z := (X _ _ ho).symm.trans htp
      cases z
    · cases hcD
  ca := fun X ⟨o, h1, h2⟩ k => exc_class_attr Z X h1 h2 k
end
end PySem.W
namespace TK
open PySem PySem.Spec PyProof.Rows L2
theorem below_of {K : PySem.W.Frag} {h : Heap} {C D : Addr} {bmB : List Value} {id : String} (X : K.In h) (q : PySem.W.excIn K C bmB id = true) (m : PySem.W.mroIn K C (.ref D) = some true) : Below h C D := by
  unfold PySem.W.excIn at q
  obtain ⟨cdD, hcD, hm⟩ := Option.bind_eq_some_iff.mp m
  unfold PySem.W.clsIn at hcD
  cases hk : K.lookup C with
  | none => rw [hk] at q; cases q
  | some o =>
    rw [hk] at q hcD
    obtain ⟨cls, dict, data, slots⟩ := o
    split at q
    · rename_i cdd sll e
      cases e
      cases hcD
      split at q
      · rename_i bm a0 a1 a2 a3 nid a5 hm2 hs2
        simp only [Bool.and_eq_true, beq_iff_eq, Bool.not_eq_true'] at q
        obtain ⟨⟨⟨⟨⟨r1, r2⟩, r3⟩, r4⟩, r5⟩, r6⟩ := q
        subst r1 r2
        obtain ⟨c1, c2, c3, c4, c5, c6, c7, c8, c9, c10, c11⟩ := cdD
        dsimp only at hm2 r3 r5 r6 hm
        subst hm2 r3
        obtain ⟨sl⟩ := slots
        have hs3 : sl = _ := hs2
        subst hs3
        refine ⟨_, _, _, _, _, _, _, _, _, _, _, _, _, _, _, _, _, X _ _ hk, ?_⟩
        split at hm
        · cases hm
        · exact Option.some.inj hm
      · cases q
    · cases q
section
variable {X : Cx} {H0 : Hp} {e : Expr} {pos p p2 : Pos} {y : Str} {a C : Addr}
noncomputable def wIsiX (i : Nat) (a : Addr) (b : Bool) : WE := fun τ Q => τ[i]? = some (some (.ob a)) ∧ Q (.st (.bl b))
theorem DE.isiX {i : Nat} {cv : V} {c : Value} {b : Bool} (he : PE X e (tVar i)) (hpn : ∃ oe, (a, oe) ∈ X.pn ∧ oe.cls = .ref C) (Z : PySem.W.ExcK X.K C) (hg : Gl X "isinstance") (hm : X.mg "isinstance" = none) (hv : bootBuiltins "isinstance" = some (.builtin "isinstance")) (h2 : PE X (.Name y p2) (tC cv)) (hcv : ∀ u, RelV cv u → u = c) (hk : PySem.W.kitOne X.K (.ref C) c = some b)
    (hs1 : starEach [e, .Name y p2] X.env = (false, eval e X.env) :: starEach [.Name y p2] X.env := by rfl) (hs2 : starEach [.Name y p2] X.env = (false, eval (.Name y p2) X.env) :: starEach [] X.env := by rfl)
    (hpl : (backTo pos (starEach [.Name y p2] X.env)).any (·.1) = false := by rfl) :
    DE X H0 (.Call (.Name "isinstance" p) [e, .Name y p2] [] pos) (wIsiX i a b) where
  mono := fun τ P Q f ⟨h1, h2⟩ => ⟨h1, f _ h2⟩
  pe := by
    have hc : CallR X (.builtin "isinstance") (fun xs H Q => xs = [.ref a, cv] ∧ Q (.bl b) H) := by
      intro pins s σ H xs us Q I rv ⟨e, q⟩
      subst e
      obtain ⟨u, w', rfl, r1, r2⟩ := vals2 rv
      cases (show u = Value.ref a from r1)
      cases hcv _ r2
      obtain ⟨oe, hm1, hm2⟩ := hpn
      exact PySem.W.kia_one (PySem.W.kitx_exc Z) I.kIn ⟨oe, (I.pin (a, oe) (List.mem_append_left _ hm1)).1, hm2⟩ hk (fun z => nomatch z) fun tk => ⟨.bl _, H, I.tok tk, rfl, q⟩
    refine peW (pe_callB hc hg hm hv (pa_cons he (pa_cons h2 pa_nil hs2) hs1) (by decide) (by decide) hs1 hpl) fun σ H Q ⟨τ, hR, h1, h⟩ => ?_
    obtain ⟨v, hv, r⟩ := hR.here i _ h1
    cases (show v = .ref a from r)
    exact ⟨_, hv, rfl, h _ _ (Same.refl H) isr_bl⟩
end
end TK
end
section
set_option maxRecDepth 100000
set_option maxHeartbeats 1000000
namespace TK
open PySem PySem.Spec PyProof.Rows L2
inductive OutM where
  | ok (d : D) (fs : List (Str × D))
  | ex (C : Addr)
noncomputable abbrev MSpX := List (Str × D) → List R → OutM → Prop
noncomputable def endMX (K : PySem.W.Frag) (C a : Addr) (H : Hp) (Q : VK) (E : XK) : OutM → Prop
  | .ok d fs' => ∀ v H', SameX a H H' → IsS K H' d v → (∃ dx' fvs', H' a = some (.ins C dx' fvs') ∧ KVS K H' fs' fvs') → Q v H'
  | .ex c => ∀ e H', SameX a H H' → E e (some c) H'
noncomputable def liftSpMX (K : PySem.W.Frag) (C : Addr) (n : Nat) (sp : MSpX) : Sp := fun vs H Q E => ∃ (a dx : Addr) (fvs : List (Str × V)) (us : List V) (fs : List (Str × D)) (rs : List R) (o : OutM),
  vs = .ref a :: us ∧ H a = some (.ins C dx fvs) ∧ KVS K H fs fvs ∧ rs.length = n ∧ AllR K (fun _ => none) H rs us ∧ rs.all argOk = true ∧ sp fs (rs.map nrm) o ∧ endMX K C a H Q E o
noncomputable abbrev FnMX (P : Program) (w : World) (K : PySem.W.Frag) (mg : Str → Option Value) (base : Heap) (k : Nat) (f : Addr) (fd : FuncData) (ps : List Str) (C : Addr) (n : Nat) (sp : MSpX) : Prop := FnOk P w K mg base (CX1 P w) k f fd ps (liftSpMX K C n sp)
noncomputable def XEofM : OutM → Addr → Prop
  | .ok _ _ => fun _ => False
  | .ex C => fun c => c = C
noncomputable def EndsMO (a C : Addr) : OutM → DEnds
  | .ok d fs => EndsM a C d fs
  | .ex _ => { nx := fun _ => False, rt := fun _ => False, bk := fun _ => False, ct := fun _ => False }
section
variable {P : Program} {w : World} {K : PySem.W.Frag} {mg : Str → Option Value} {base : Heap}
theorem Fun.okMX {x qual : Str} {st : Stmt} {f C : Addr} {fd : FuncData} {N ps : List Str} {k n : Nat} {sp : MSpX} {ws : (Addr → Prop) → WS} (F : Fun K x qual st f fd) (S : FnScope N ps (defScope st)) (hps : ps.length = n + 1)
    (hbody : ∀ (cdv : Value) (A : Around) (outer : List Env) (s : Shared) (H : Hp) (E : XK) (XE : Addr → Prop) (a : Addr), Room k (A.deeper (envOfC qual (defScope st) s.heap.objs.size f cdv)) →
      DSs (Cx.may (cxOf (CX1 P w) P w K mg base N qual (defScope st) f cdv A outer s H E) (hid a H) XE) (hid a H) (defBody st) (ws XE))
    (hw : ∀ a fs rs o, rs.length = n → sp fs rs o → ws (XEofM o) (EndsMO a C o) (startD N (.ms a C .non fs :: rs))) : FnMX P w K mg base (k + 1) f fd ps C n sp := by
  obtain ⟨oc, od, kV, doc, pm, an, cdv, ct, osl, rfl, lk, hcd⟩ := F.ex
  refine fn_of lk hcd S (fun vs H Q E h => ?_) fun A outer s H vs Q E hr h => ?_
  · obtain ⟨a, dx, fvs, us, fs, rs, o, rfl, _, _, hl, al, _⟩ := h
    rw [List.length_cons, ← al.length, hl, hps]
  obtain ⟨a, dx, fvs, us, fs, rs, o, rfl, ha, kv, hl, al, ok, h1, h2⟩ := h
  have hd := hbody cdv A outer s H E (XEofM o) a hr
  have hw := hw a fs (rs.map nrm) o (by rw [List.length_map]; exact hl) h1
  have e : startD N (R.ms a C .non fs :: rs.map nrm) = startD N (R.ms a C .non fs :: rs) := by
    unfold startD
    rw [List.map_cons, List.map_cons, List.map_map, List.length_cons, List.length_cons, List.length_map]
    congr 2
    exact List.map_congr_left fun r _ => congrArg some (slotOf_nrm r)
  rw [e] at hw
  have hE : ∀ c e H', XEofM o c → Same (hid a H) H' → E e (some c) H' := fun c e H' hx sm => by
    cases o with
    | ok d fs' => exact False.elim hx
    | ex c' => cases (show c = c' from hx); exact h2 e H' (sameX_of sm)
  refine ⟨_, fun pins s1 σ H1 D I hq => wpAny_mono (hd.ps pins s1 σ H1 D (I.wish _) hq) (fun _ _ q => q.unwish) fun e s2 q => xw_leave hE q, startD N (.ms a C .non fs :: rs), rep_startM ha kv al ok, ?_⟩
  refine hd.mono _ _ _ ⟨fun τ h σ H' _ hR => ?_, fun r' h v H' sm ir => ?_, fun _ h => ?_, fun _ h => ?_⟩ hw
  · cases o with
    | ok d fs' =>
      obtain ⟨h3, h4⟩ := (show d = .non ∧ τ[0]? = some (some (.ins a C fs')) from h)
      subst h3
      obtain ⟨hv, h0, dx', vs', ha', kv'⟩ := hR.insAt h4
      exact h2 .non H' (sameX_of hR.same) (IsS.s_non (K := K) (H := H')) ⟨dx', vs', ha', kv'⟩
    | ex c => exact False.elim h
  · cases o with
    | ok d fs' =>
      have h : r' = .ms a C d fs' := h
      subst h
      obtain ⟨h3, dx', vs', ha', kv'⟩ := ir
      exact h2 v H' (sameX_of sm) h3 ⟨dx', vs', ha', kv'⟩
    | ex c => exact False.elim h
  · cases o <;> exact False.elim h
  · cases o <;> exact False.elim h
end
section
variable {Y : Cx} {XE : Addr → Prop} {H0 : Hp} {o e : Expr} {es : List Expr} {pos apos : Pos} {m : Str} {C fa : Addr} {fd : FuncData} {ps : List Str} {k : Nat} {sp : MSpX} {wr : WA}
noncomputable def outMX (XE : Addr → Prop) (Q : D → List (Str × D) → Prop) : OutM → Prop
  | .ok d fs => Q d fs
  | .ex c => XE c
theorem outMX_mono {P Q : D → List (Str × D) → Prop} (f : ∀ d fs, P d fs → Q d fs) {o : OutM} (h : outMX XE P o) : outMX XE Q o := by
  cases o with
  | ok d fs => exact f _ _ h
  | ex c => exact h
theorem wish_same {a : Addr} {H1 H' : Hp} (h0 : H0 a = none) (s1 : Same H0 H1) (sx : SameX a H1 H') : Same H0 H' := fun b ob hb => sx b ob (ne_of_none hb h0) (s1 b ob hb)
noncomputable def mMethX (XE : Addr → Prop) (C : Addr) (i : Nat) (m : Str) (sp : MSpX) (wr : WA) : WM := fun τ Q => ∃ a fs, τ[i]? = some (some (.ins a C fs)) ∧ fs.lookup m = none ∧ wr τ fun rs => rs.all argOk = true ∧ ∃ o, sp fs (rs.map nrm) o ∧ outMX XE (fun d fs' => Q d (τ.set i (some (.ins a C fs')))) o
theorem DM.methX {i : Nat} {pl : Sem Bool} (ho : PE (Cx.may Y H0 XE) o (tVar i)) (c : Cls Y.K C) (hm : Meth Y.K C m fa) (F : FnOk Y.prog Y.w Y.K Y.mg Y.base (CX1 Y.prog Y.w) k fa fd ps (liftSpMX Y.K C (e :: es).length sp)) (hr : Room k Y.A) (hb : Binds Y.K fd ps []) (ha : DA (Cx.may Y H0 XE) H0 (e :: es) wr) (hex : Y.ex = [])
    (hst : starEach (e :: es) Y.env = (false, eval e Y.env) :: starEach es Y.env := by rfl) (hpl : (backTo pos (starEach es Y.env)).any (·.1) = false := by rfl)
    (ht : eval (.Call (.Attribute o m apos) (e :: es) [] pos) Y.env = (do
      let ov ← eval o Y.env
      standAt apos.atName
      let (f, first) ← holding [ov] (getMethod ov m pl)
      callWith pos f first (backTo pos (starEach (e :: es) Y.env)) (backToKw pos (keywordEach [] Y.env))) := by rfl) :
    DM (Cx.may Y H0 XE) H0 (.Call (.Attribute o m apos) (e :: es) [] pos) (mMethX XE C i m sp wr) where
  mono := fun τ P Q g ⟨a, fs, h1, h2, h⟩ => ⟨a, fs, h1, h2, ha.mono τ _ _ (fun rs ⟨ok, o, h3, h4⟩ => ⟨ok, o, h3, outMX_mono (fun _ _ h => g _ _ h) h4⟩) h⟩
  pe := peW (pe_meth (X := Cx.may Y H0 XE) ho c hm F hr hb .nil (passX hex) ha.pa hst hpl ht) fun σ H Q ⟨τ, hR, a, fs, h1, h2, h⟩ => by
    obtain ⟨hv, h0, dx, vs, hA, kv⟩ := hR.insAt h1
    refine ⟨_, hv, a, dx, vs, rfl, hA, ?_, τ, hR, ha.mono τ _ _ (fun rs ⟨hln, ok, o, h3, h4⟩ us H1 s1 irs => ?_) (ha.len τ _ h)⟩
    · rcases KVS.look (f := m) kv with ⟨_, n1⟩ | ⟨d', v', n1, n2, n3⟩
      · exact n1
      · rw [h2] at n1; cases n1
    · refine ⟨a, dx, vs, us, fs, rs, o, by rw [List.append_nil], s1 _ _ hA, kv.mono (Kp.of s1) _ _, hln, irs.v, ok, h3, ?_⟩
      cases o with
      | ok d fs' =>
        intro v H' sx iv hx
        obtain ⟨kp, hR2⟩ := (hR.mono s1).mutX h1 sx hx
        exact h4 v H' ((Kp.of s1).trans kp) hR2 iv
      | ex c' => exact fun e H' sx => ⟨c', rfl, h4, wish_same h0 (hR.mono s1).same sx⟩
noncomputable def mMeth0X (XE : Addr → Prop) (C : Addr) (i : Nat) (m : Str) (sp : MSpX) : WM := fun τ Q => ∃ a fs, τ[i]? = some (some (.ins a C fs)) ∧ fs.lookup m = none ∧ ∃ o, sp fs [] o ∧ outMX XE (fun d fs' => Q d (τ.set i (some (.ins a C fs')))) o
theorem DM.meth0X {i : Nat} {pl : Sem Bool} (ho : PE (Cx.may Y H0 XE) o (tVar i)) (c : Cls Y.K C) (hm : Meth Y.K C m fa) (F : FnOk Y.prog Y.w Y.K Y.mg Y.base (CX1 Y.prog Y.w) k fa fd ps (liftSpMX Y.K C 0 sp)) (hr : Room k Y.A) (hb : Binds Y.K fd ps []) (hex : Y.ex = [])
    (ht : eval (.Call (.Attribute o m apos) [] [] pos) Y.env = (do
      let ov ← eval o Y.env
      standAt apos.atName
      let (f, first) ← holding [ov] (getMethod ov m pl)
      callWith pos f first (backTo pos (starEach [] Y.env)) (backToKw pos (keywordEach [] Y.env))) := by rfl) :
    DM (Cx.may Y H0 XE) H0 (.Call (.Attribute o m apos) [] [] pos) (mMeth0X XE C i m sp) where
  mono := fun τ P Q g ⟨a, fs, h1, h2, o, h3, h4⟩ => ⟨a, fs, h1, h2, o, h3, outMX_mono (fun _ _ h => g _ _ h) h4⟩
  pe := peW (pe_meth0 (X := Cx.may Y H0 XE) ho c hm F hr hb .nil (passX hex) ht) fun σ H Q ⟨τ, hR, a, fs, h1, h2, o, h3, h4⟩ => by
    obtain ⟨hv, h0, dx, vs, hA, kv⟩ := hR.insAt h1
    refine ⟨_, hv, a, dx, vs, rfl, hA, ?_, ?_⟩
    · rcases KVS.look (f := m) kv with ⟨_, n1⟩ | ⟨d', v', n1, n2, n3⟩
      · exact n1
      · rw [h2] at n1; cases n1
    · refine ⟨a, dx, vs, [], fs, [], o, rfl, hA, kv, rfl, rfl, rfl, h3, ?_⟩
      cases o with
      | ok d fs' =>
        intro v H' sx iv hx
        obtain ⟨kp, hR2⟩ := hR.mutX h1 sx hx
        exact h4 v H' kp hR2 iv
      | ex c' => exact fun e H' sx => ⟨c', rfl, h4, wish_same h0 hR.same sx⟩
end
theorem dig_len : ∀ n < 1101, (Str.ofString (toString (Int.ofNat n))).length ≤ 4 := by decide +kernel
section
variable {X : Cx} {H0 : Hp} {e : Expr} {we : WE} {pos p1 p2 : Pos}
noncomputable def wFstr (we : WE) : WE := fun τ Q => we τ fun r => intR r fun i => 0 ≤ i ∧ i ≤ 1100 ∧ ∀ x, Q (.st (.str x))
theorem DE.fstr {m : Str} {j : Nat} (hm : m.length ≤ 1000) (he : DE X H0 e we) : DE X H0 (.JoinedStr [.Constant (.str m) j p1, .FormattedValue e (-1) none p2] pos) (wFstr we) where
  mono := fun τ P Q f h => he.mono τ _ _ (fun r h => by obtain ⟨i, rfl, h1, h2, h3⟩ := intR_of h; exact ⟨h1, h2, fun x => f _ (h3 x)⟩) h
  pe := by
    intro pins s σ H Q I ⟨τ, hR, h⟩
    refine wpAny_JoinedStr ?_
    show Joins _ _ _ [eval (.Constant (.str m) j p1) X.env, eval (.FormattedValue e (-1) none p2) X.env] _ _ _
    unfold Joins
    refine thn (pe_str (x := m) (j := j) (pos := p1) pins s σ H (fun v H' => v = .str m ∧ H' = H) I ⟨rfl, rfl⟩) fun v1 s1 ⟨y, H1, I1, r1, e1, e2⟩ => ?_
    subst e1 e2
    obtain ⟨t1, rfl⟩ := r1
    have l1 : (Str.empty ++ m).length = m.length := by rw [strLen_append]; exact Nat.zero_add _
    refine ⟨m, t1, rfl, by rw [l1]; exact Nat.le_trans hm (by decide), ?_⟩
    unfold Joins
    refine wpAny_FormattedValue_plain (thn (he.pe pins s1 σ H1 (fun v H' => ∃ i : Int, v = .int i ∧ 0 ≤ i ∧ i ≤ 1100 ∧ ∀ x, Q (.str x) H') I1 ⟨τ, hR, he.mono τ _ _ (fun r h v H' sm ir => ?_) h⟩) fun v2 s2 ⟨z, H2, I2, r2, i, e1, h1, h2, h3⟩ => ?_)
    · obtain ⟨i, rfl, h1, h2, h3⟩ := intR_of h
      exact ⟨i, ir, h1, h2, fun x => h3 x _ _ sm isr_str⟩
    · subst e1
      obtain ⟨t2, rfl⟩ := r2
      have hd : i.natAbs.log2 < 1920 := by
        by_cases h0 : i.natAbs = 0
        · rw [h0]; decide
        · have h11 : i.natAbs.log2 < 11 := (Nat.log2_lt h0).mpr (by show i.natAbs < 2048; omega)
          omega
      refine wpAny_formatField_int hd ⟨_, _, rfl, ?_, ?_⟩
      · rw [strLen_append, l1]
        have := dig_len i.toNat (by omega)
        have e : Int.ofNat i.toNat = i := by simp; omega
        rw [e] at this
        exact Nat.le_trans (show _ ≤ 2000 by omega) (by decide)
      · unfold Joins
        refine ⟨?_, .str _, H2, I2.tok _, ⟨_, rfl⟩, h3 _⟩
        rw [strLen_append, l1]
        have := dig_len i.toNat (by omega)
        have e : Int.ofNat i.toNat = i := by simp; omega
        rw [e] at this
        exact Nat.le_trans (show _ ≤ 2000 by omega) (by decide)
end
noncomputable abbrev noneD (N : List Str) : DSt := List.replicate N.length none
theorem rep_ob {K : PySem.W.Frag} {H0 H : Hp} {N : List Str} {i : Nat} {a : Addr} (hi : i < N.length) (s : Same H0 H) : Rep K H0 ((noneD N).set i (some (.ob a))) ((List.replicate N.length none : St).set i (some (.ref a))) H := by
  have at_ : ∀ (j : Nat) (sl : Sl), ((noneD N).set i (some (.ob a)))[j]? = some (some sl) → j = i ∧ sl = .ob a := fun j sl e => by
    by_cases hj : j = i
    · subst hj
      rw [get_set_eq (by simpa using hi)] at e
      exact ⟨rfl, (Option.some.inj (Option.some.inj e)).symm⟩
    · rw [List.getElem?_set_ne (fun z => hj z.symm), List.getElem?_replicate] at e
      split at e <;> cases e
  refine ⟨by simp, s, fun j sl e => ?_, fun j k s t v hne e1 e2 m1 _ _ _ => ?_⟩
  · obtain ⟨rfl, rfl⟩ := at_ j sl e
    exact ⟨.ref a, get_set_eq (by simpa using hi), rfl⟩
  · obtain ⟨_, rfl⟩ := at_ j s e1
    cases m1
theorem none_get {N : List Str} {j : Nat} {sl : Sl} (e : (noneD N)[j]? = some (some sl)) : False := by
  rw [List.getElem?_replicate] at e
  split at e <;> cases e
theorem rep_none {K : PySem.W.Frag} {H0 H : Hp} {N : List Str} (s : Same H0 H) : Rep K H0 (noneD N) (List.replicate N.length none) H :=
  ⟨by simp, s, fun j sl e => (none_get e).elim, fun j k s t v _ e1 _ _ _ _ _ => (none_get e1).elim⟩
section
variable {P : Program} {w : World} {K : PySem.W.Frag} {mg : Str → Option Value} {base : Heap}
noncomputable def wTry (N : List Str) (i : Nat) (XE : Addr → Prop) (wb : (Addr → Prop) → WS) (wh : Addr → Addr → WS) (wr : WS) : WS := fun E τ =>
  ∃ XE' : Addr → Prop, (∀ C, XE' C → XE C) ∧ wb XE' { E with nx := wr E } τ ∧ ∀ C a, XE' C → wh C a { nx := fun _ => wr E (noneD N), rt := E.rt, bk := fun _ => False, ct := fun _ => False } ((noneD N).set i (some (.ob a)))
theorem Fun.okTry {x qual : Str} {st : Stmt} {f : Addr} {fd : FuncData} {N ps : List Str} {k : Nat} {sp : DSp} (F : Fun K x qual st f fd) (S : FnScope N ps (defScope st)) {body suite rest : List Stmt} {b₀ : Stmt} {n xD : Str} {np hpos pos : Pos} {i : Nat} {D : Addr} {idD : String}
    {XE : Addr → Prop} {wb : (Addr → Prop) → WS} {wh : Addr → Addr → WS} {wr : WS} (hdf : defBody st = .Try body [.ExceptHandler (some (.Name xD np)) (some n) (b₀ :: suite) hpos] [] [] pos :: rest) (hi : N[i]? = some n) (hlen : i < N.length)
    (hloc : (defScope st).names.lookup n = some .local) (OD : OwnCls xD D mroV idD mg base) (hsub : ∀ C, XE C → Below base C D)
    (hgD : ∀ (cdv : Value) (A : Around) (outer : List Env) (s : Shared) (H : Hp) (E : XK), Gl (cxOf CX0 P w K mg base N qual (defScope st) f cdv A outer s H E) xD)
    (hbody : ∀ (cdv : Value) (A : Around) (outer : List Env) (s : Shared) (H : Hp) (E : XK) (XE' : Addr → Prop), Room k (A.deeper (envOfC qual (defScope st) s.heap.objs.size f cdv)) →
      DSs (Cx.may (cxOf CX0 P w K mg base N qual (defScope st) f cdv A outer s H E) H XE') H body (wb XE'))
    (hsuite : ∀ (cdv : Value) (A : Around) (outer : List Env) (s : Shared) (H : Hp) (E : XK) (C a : Addr) (pn : List (Addr × Obj)), Room k (A.deeper (envOfC qual (defScope st) s.heap.objs.size f cdv)) → XE C → (∃ oe, (a, oe) ∈ pn ∧ oe.cls = .ref C) →
      DSs ((cxOf CX0 P w K mg base N qual (defScope st) f cdv A outer s H E).hand a pn) H (b₀ :: suite) (wh C a))
    (hrest : ∀ (cdv : Value) (A : Around) (outer : List Env) (s : Shared) (H : Hp) (E : XK), Room k (A.deeper (envOfC qual (defScope st) s.heap.objs.size f cdv)) →
      DSs (cxOf CX0 P w K mg base N qual (defScope st) f cdv A outer s H E).nox H rest wr)
    (hw : ∀ rs r, rs.length = ps.length → sp rs r → wTry N i XE wb wh wr (Ends1 r) (startD N rs)) (hdb : (xD == ("__debug__" : Str)) = false := by decide) : FnD P w K mg base (k + 1) f fd ps sp := by
  obtain ⟨oc, od, kV, doc, pm, an, cdv, ct, osl, rfl, lk, hcd⟩ := F.ex
  refine fn_of0 lk hcd S (fun vs H Q E h => ?_) fun A outer s H vs Q E hr h s1 I => ?_
  · obtain ⟨rs, r, hl, al, _⟩ := h
    rw [← al.length]; exact hl
  obtain ⟨rs, r, hl, al, ok, h1, h2⟩ := h
  obtain ⟨XE', hle, q1, q2⟩ := hw (rs.map nrm) r (by rw [List.length_map]; exact hl) h1
  rw [startD_nrm] at q1
  have hb := hbody cdv A outer s H E XE' hr
  have hrs := hrest cdv A outer s H E hr
  have nn := S.nd
  have rtE : ∀ r', r' = r → ∀ v H', Same H H' → IsR K H H' r' v → Q v H' := fun r' e v H' sm ir => by subst e; exact h2 v H' sm ir
  have nxE : r = .st .non → ∀ H', Same H H' → Q .non H' := fun e H' sm => by subst e; exact h2 .non H' sm (IsS.s_non (K := K) (H := H'))
  have leE : ∀ Hs, (Ends1 r).Le (liftD K H Hs { nx := fun _ H' => Q .non H', rt := Q }) := fun Hs => ⟨fun τ h σ H' _ hR => nxE h H' hR.same, fun r' h v H' sm ir => rtE r' h v H' sm ir, fun _ h => False.elim h, fun _ h => False.elim h⟩
  have hdf' : defBody st = _ := hdf
  show wpAny _ _ (execs (defBody st) _) _ _ s1
  rw [hdf']
  refine wpAny_execs_cons (thn (try_as (Y := cxOf CX0 P w K mg base N qual (defScope st) f cdv A outer s H E) (G := H) (XE := XE') (tb := liftS K H (wb XE')) (th := fun C a => liftS K H (wh C a)) (E := { nx := liftS K H wr { nx := fun _ H' => Q .non H', rt := Q }, rt := Q }) rfl rfl ⟨rfl, rfl⟩ nn hi hloc OD (hgD cdv A outer s H E) (fun C hx => hsub C (hle C hx)) hb.ps (fun C a pn hx hp => (hsuite cdv A outer s H E C a pn hr (hle C hx) hp).ps) I ?_ (fun C a H' hx sm => ?_) hdb) fun fl s2 q => ?_)
  · refine ⟨startD N rs, rep_start al ok, hb.mono _ _ _ ⟨fun τ h σ H' kp hR => ⟨τ, hR, hrs.mono τ _ _ (leE _) h⟩, fun r' h v H' sm ir => rtE r' h v H' sm ir, fun _ h => False.elim h, fun _ h => False.elim h⟩ q1⟩
  · refine ⟨(noneD N).set i (some (.ob a)), rep_ob hlen sm, (hsuite cdv A outer s H E C a _ hr (hle C hx) ⟨⟨.ref C, none, .fields #[], #[]⟩, List.mem_singleton.mpr rfl, rfl⟩).mono _ _ _ ⟨fun τ h σ H'' kp hR => ⟨noneD N, rep_none hR.same, hrs.mono _ _ _ (leE _) h⟩, fun r' h v H' sm ir => rtE r' h v H' sm ir, fun _ h => False.elim h, fun _ h => False.elim h⟩ (q2 C a hx)⟩
  · cases fl with
    | next =>
      obtain ⟨σ', H', I', q⟩ := q
      exact hrs.ps.nox [] s2 σ' H' _ I' q
    | ret v => exact q
    | brk => exact q
    | cont => exact q
end
end TK
end
section
set_option maxRecDepth 100000
set_option maxHeartbeats 1000000
namespace TK
open PySem PySem.Spec PyProof.Rows L2
noncomputable def flV : D → Option V
  | .non => some .non
  | .bl b => some (.bl b)
  | .int i => some (.int i)
  | .str x => some (.str x)
  | _ => none
noncomputable def flVs : List D → Option (List V)
  | [] => some []
  | d :: r => (flV d).bind fun v => (flVs r).map (v :: ·)
theorem flV_of {K : PySem.W.Frag} {H : Hp} {d : D} {v u : V} (h : flV d = some v) (i : IsS K H d u) : u = v ∧ flatV v = true := by
  cases d with
  | non => cases h; cases (show u = .non from i); exact ⟨rfl, rfl⟩
  | bl b => cases h; cases (show u = .bl b from i); exact ⟨rfl, rfl⟩
  | int b => cases h; cases (show u = .int b from i); exact ⟨rfl, rfl⟩
  | str b => cases h; cases (show u = .str b from i); exact ⟨rfl, rfl⟩
  | _ => cases h
theorem flVs_of {K : PySem.W.Frag} {H : Hp} : ∀ {ds : List D} {vs us : List V}, flVs ds = some vs → AllS K H ds us → us = vs ∧ vs.all flatV = true
  | [], vs, us, h, al => by cases h; unfold AllS at al; exact ⟨al, rfl⟩
  | d :: ds, vs, us, h, al => by
    unfold AllS at al
    obtain ⟨v, t, rfl, iv, al⟩ := al
    unfold flVs at h
    cases e1 : flV d with
    | none => rw [e1] at h; cases h
    | some x =>
      cases e2 : flVs ds with
      | none => rw [e1, e2] at h; cases h
      | some xs =>
        rw [e1, e2] at h; cases h
        obtain ⟨rfl, f1⟩ := flV_of e1 iv
        obtain ⟨rfl, f2⟩ := flVs_of e2 al
        exact ⟨rfl, by rw [List.all_cons, f1, f2]; rfl⟩
noncomputable def inF (neg : Bool) (x y : R) (Q : Bool → Prop) : Prop := ∃ d ds v vs, x = .st d ∧ y = .st (.tup ds) ∧ flV d = some v ∧ flVs ds = some vs ∧ Q (if neg then !inV v vs else inV v vs)
theorem inF_mono {neg : Bool} : Mono2 (inF neg) := fun x y P Q f ⟨d, ds, v, vs, a, b, c, e, h⟩ => ⟨d, ds, v, vs, a, b, c, e, f _ h⟩
section
variable {X : Cx} {H0 : Hp} {e : Expr} {we : WE} {pos p p2 : Pos}
theorem inF_seq {neg : Bool} {H : Hp} {x y : V} {Q : VK} (h : ∃ r1 r2, IsV X.K H r1 x ∧ IsV X.K H r2 y ∧ inF neg r1 r2 fun k => Q (.bl k) H) : rIn X.K neg x y H Q := by
  obtain ⟨r1, r2, h1, h2, d, ds, v, vs, rfl, rfl, e1, e2, q⟩ := h
  obtain ⟨rfl, f1⟩ := flV_of e1 (show IsS X.K H d x from h1)
  have h2 : IsS X.K H (.tup ds) y := h2
  unfold IsS at h2
  obtain ⟨p, xs, rfl, sq, al⟩ := h2
  obtain ⟨rfl, f2⟩ := flVs_of e2 al
  exact ⟨p, _, rfl, .inr (SqT.of sq), f1, f2, q⟩
theorem cd_inF : CmpD X .In (inF false) := fun pins s σ H x y v u Q I rx ry h => op_in_seq pins s σ H x y v u Q I rx ry (inF_seq h)
theorem cd_notinF : CmpD X .NotIn (inF true) := fun pins s σ H x y v u Q I rx ry h => op_notIn_seq pins s σ H x y v u Q I rx ry (inF_seq h)
noncomputable def wDget1 (kvs : List (Str × Sum Int Str)) (we : WE) : WE := fun τ Q => we τ fun r => strR r fun k => Q (.st (match lkc kvs k with | some c => cD c | none => .non))
theorem DE.dget1 {keys : List (Option Expr)} {values : List Expr} {kvs : List (Str × Sum Int Str)} {trs : List (TE × TE)} {apos cpos dpos : Pos} (hu : X.A.units + 1 < cLine) (hd : DispC X keys values dpos kvs trs) (h0 : keys ≠ []) (h15 : kvs.length ≤ 15) (hk : keys.length ≤ 15) (nd : (kvs.map (·.1)).Nodup) (he : DE X H0 e we) (m : M1 X (.Dict keys values dpos) "get" apos e cpos) :
    DE X H0 (.Call (.Attribute (.Dict keys values dpos) "get" apos) [e] [] cpos) (wDget1 kvs we) where
  mono := fun τ P Q g h => he.mono τ _ _ (fun r h => by
    obtain ⟨k, rfl, h⟩ := strR_of h
    exact g _ h) h
  pe := peW (pe_dget1 hu (pe_disp hd.pps hd.all hd.len h0 hk) he.pe m) fun σ H Q ⟨τ, hR, h⟩ => by
    intro q hq
    refine hd.rd σ _ _ ⟨upd_same, kvs.map (fun kv => ((Sum.inr kv.1 : Key), cV kv.2)), by simp [kV], by simpa using h15, ?_⟩
    have nd' : (kvs.map fun kv => (Sum.inr kv.1 : Key)).Nodup := by
      have : kvs.map (fun kv => (Sum.inr kv.1 : Key)) = (kvs.map (·.1)).map Sum.inr := by rw [List.map_map]; rfl
      rw [this]
      exact List.pairwise_map.mpr (nd.imp fun h z => h (Sum.inr.inj z))
    rw [merge_putC kvs [] (by simpa using nd'), List.nil_append, upd_upd]
    have sm : Same H (upd H q (.dK (kvs.map fun kv => ((Sum.inr kv.1 : Key), cV kv.2)))) := same_new hq _
    refine ⟨q, rfl, .inl ⟨_, .inl upd_same⟩, τ, hR.mono sm, he.mono τ _ _ (fun r h v H1 s1 ir => ?_) h⟩
    obtain ⟨k, er, h'⟩ := strR_of h
    subst er
    cases (show v = .str k from ir)
    refine ⟨_, DGet.k (k := Sum.inr k) (s1 _ _ upd_same), ?_⟩
    rw [valV_lkc]
    cases e1 : lkc kvs k with
    | none => rw [e1] at h'; exact h' _ _ (sm.trans s1) (IsS.s_non (K := X.K) (H := H1))
    | some c => rw [e1] at h'; exact h' _ _ (sm.trans s1) (isr_c c)
end
noncomputable def repS (z : Str) (n : Int) : Str := ⟨(List.replicate n.toNat z.cps).foldl (· ++ ·) #[]⟩
noncomputable def mulS (x y : R) (Q : R → Prop) : Prop := ∃ z n, x = .st (.str z) ∧ y = .st (.int n) ∧ 2 ≤ n ∧ n ≤ 100 ∧ 1 ≤ z.length ∧ z.length ≤ 100 ∧ Q (.st (.str (repS z n)))
theorem mulS_mono : Mono2 mulS := fun x y P Q f ⟨z, n, a, b, c, d, e, g, h⟩ => ⟨z, n, a, b, c, d, e, g, f _ h⟩
theorem rep_len (z : Array Nat) : ∀ (n : Nat) (acc : Array Nat), ((List.replicate n z).foldl (· ++ ·) acc).size = acc.size + n * z.size
  | 0, acc => by simp
  | n + 1, acc => by rw [List.replicate_succ, List.foldl_cons, rep_len z n, Array.size_append, Nat.succ_mul]; omega
theorem od_mulS {X : Cx} : OpD X (binaryOp .Mult) mulS := by
  intro pins s σ H x y v u Q I rx ry ⟨r1, r2, h1, h2, z, n, e1, e2, n1, n2, l1, l2, q⟩
  subst e1 e2
  cases (show x = .str z from h1)
  cases (show y = .int n from h2)
  obtain ⟨t, rfl⟩ := rx
  obtain ⟨t', rfl⟩ := ry
  have b1 : (decide (n < -(2 ^ 63 : Int)) || decide (n ≥ 2 ^ 63)) = false := by
    rw [decide_eq_false (by omega), decide_eq_false (by omega)]; rfl
  have hn1 : ¬ n < 1 := by omega
  have hne : (n == 1 || z.length == 0) = false := by
    rw [Bool.or_eq_false_iff]
    exact ⟨by simpa using (show n ≠ 1 by omega), by simpa using (show z.length ≠ 0 by omega)⟩
  have lb : z.length * n.toNat ≤ 10000 := by
    have : n.toNat ≤ 100 := by omega
    exact Nat.le_trans (Nat.mul_le_mul l2 this) (by decide)
  refine PySem.P.mul_str b1 (fun _ _ => ?_) (fun _ _ => ?_) ?_
  · have : (100 : Int) ≤ (2 ^ 63 - 1) / n := by
      refine Int.le_ediv_of_mul_le (by omega) ?_
      have : 100 * n ≤ 100 * 100 := by omega
      omega
    omega
  · unfold Builtin.Str.tooLong
    have : (10000 : Nat) ≤ sizeLine := by decide
    exact decide_eq_false (by omega)
  · rw [if_neg hn1, if_neg (by rw [hne]; decide)]
    refine ⟨?_, .str _, H, I.tok _, ⟨_, rfl⟩, q _ _ (Same.refl H) isr_str⟩
    show (repS z n).length ≤ sizeLine
    have : (repS z n).length = n.toNat * z.length := by
      show ((List.replicate n.toNat z.cps).foldl (· ++ ·) #[]).size = _
      rw [rep_len]; simp [Str.length]
    rw [this, Nat.mul_comm]
    exact Nat.le_trans lb (by decide)
section
variable {τ : DSt} {Q : R → Prop} {QB : Bool → Prop} {we : WE} {E : DEnds} {QM : D → DSt → Prop}
@[simp] theorem s_dget1 {kvs : List (Str × Sum Int Str)} : wDget1 kvs we τ Q = we τ fun r => strR r fun k => Q (.st (match lkc kvs k with | some c => cD c | none => .non)) := rfl
@[simp] theorem s_inF {neg : Bool} {d : D} {ds : List D} : inF neg (.st d) (.st (.tup ds)) QB = ∃ v vs, flV d = some v ∧ flVs ds = some vs ∧ QB (if neg then !inV v vs else inV v vs) := by
  apply propext; constructor
  · rintro ⟨d', ds', v, vs, e1, e2, h⟩; cases e1; cases e2; exact ⟨v, vs, h⟩
  · rintro ⟨v, vs, h⟩; exact ⟨d, ds, v, vs, rfl, rfl, h⟩
@[simp] theorem o_mulS {z : Str} {n : Int} : mulS (.st (.str z)) (.st (.int n)) Q = (2 ≤ n ∧ n ≤ 100 ∧ 1 ≤ z.length ∧ z.length ≤ 100 ∧ Q (.st (.str (repS z n)))) := by
  apply propext; constructor
  · rintro ⟨z', n', e1, e2, h⟩; cases e1; cases e2; exact h
  · intro h; exact ⟨z, n, rfl, rfl, h⟩
@[simp] theorem s_raise {XE : Addr → Prop} {C : Addr} : wRaise XE C we E τ = we τ fun _ => XE C := rfl
@[simp] theorem s_fstr : wFstr we τ Q = we τ fun r => intR r fun i => 0 ≤ i ∧ i ≤ 1100 ∧ ∀ x, Q (.st (.str x)) := rfl
@[simp] theorem s_callX {XE : Addr → Prop} {sp : DSpX} {wr : WA} : wCallX XE sp wr τ Q = wr τ fun rs => rs.all argOk = true ∧ ∃ o, sp (rs.map nrm) o ∧ outX XE Q o := rfl
@[simp] theorem s_outX1 {XE : Addr → Prop} {r : R} : outX XE Q (.ok r) = Q r := rfl
@[simp] theorem s_outX2 {XE : Addr → Prop} {C : Addr} : outX XE Q (.ex C) = XE C := rfl
@[simp] theorem s_mMethX {XE : Addr → Prop} {C : Addr} {i : Nat} {m : Str} {sp : MSpX} {wr : WA} : mMethX XE C i m sp wr τ QM = ∃ a fs, τ[i]? = some (some (.ins a C fs)) ∧ NoF fs m ∧ wr τ fun rs => rs.all argOk = true ∧ ∃ o, sp fs (rs.map nrm) o ∧ outMX XE (fun d fs' => QM d (τ.set i (some (.ins a C fs')))) o := rfl
@[simp] theorem s_mMeth0X {XE : Addr → Prop} {C : Addr} {i : Nat} {m : Str} {sp : MSpX} : mMeth0X XE C i m sp τ QM = ∃ a fs, τ[i]? = some (some (.ins a C fs)) ∧ NoF fs m ∧ ∃ o, sp fs [] o ∧ outMX XE (fun d fs' => QM d (τ.set i (some (.ins a C fs')))) o := rfl
@[simp] theorem s_outMX1 {XE : Addr → Prop} {Q : D → List (Str × D) → Prop} {d : D} {fs : List (Str × D)} : outMX XE Q (.ok d fs) = Q d fs := rfl
@[simp] theorem s_outMX2 {XE : Addr → Prop} {Q : D → List (Str × D) → Prop} {C : Addr} : outMX XE Q (.ex C) = XE C := rfl
@[simp] theorem e_MO1 {a C : Addr} {d : D} {fs : List (Str × D)} : EndsMO a C (.ok d fs) = EndsM a C d fs := rfl
@[simp] theorem e_O1 {r : R} : EndsO (.ok r) = Ends1 r := rfl
@[simp] theorem xe_ex {C c : Addr} : XEof (.ex C) c = (c = C) := rfl
@[simp] theorem xe_exM {C c : Addr} : XEofM (.ex C) c = (c = C) := rfl
@[simp] theorem s_isiX {i : Nat} {a : Addr} {b : Bool} : wIsiX i a b τ Q = (τ[i]? = some (some (.ob a)) ∧ Q (.st (.bl b))) := rfl
@[simp] theorem s_rdOb {a : Addr} : rdS (.ob a) = .ob a := rfl
end
end TK
end
section
set_option maxRecDepth 100000
namespace K81
open PySem PySem.Spec PyProof.Rows L2 TK
noncomputable def top (i : Nat) : Stmt := PySem.Challenge.pw_textkinds_k81_whole_read.main.body.getD i (.Pass ⟨0, 0, 0, 0⟩)
noncomputable def aheadKV : List (Str × Sum Int Str) := [("not", .inr "!"), ("many", .inr "*")]
noncomputable def betweenKV : List (Str × Sum Int Str) := [("then", .inr " "), ("or", .inr "|"), ("and", .inr "&")]
noncomputable def innerKV : List (Str × Int) := [("none", 0), ("empty", 0), ("signs", 0), ("then", 2), ("or", 2), ("and", 2), ("not", 1), ("many", 1)]
noncomputable def waKV : List (Str × Sum Int Str) := [("!", .inr "not"), ("*", .inr "many")]
noncomputable def wbKV : List (Str × Sum Int Str) := [(" ", .inr "then"), ("|", .inr "or"), ("&", .inr "and")]
structure Txt (K : PySem.W.Frag) (mg : Str → Option Value) (w : World) : Prop where
  m_ValueError : mg "ValueError" = none
  m_enumerate : mg "enumerate" = none
  m_isinstance : mg "isinstance" = none
  m_len : mg "len" = none
  m_list : mg "list" = none
  m_max : mg "max" = none
  m_range : mg "range" = none
  m_str : mg "str" = none
  c_MOST_PARTS : ∃ t, mg "MOST_PARTS" = some (.int 15 t)
  c_SIGNS : ∃ t, mg "SIGNS" = some (.str "01ab" t)
  e_AHEAD : ∃ d, MDictC K w d aheadKV ∧ mg "AHEAD" = some (.ref d)
  e_BETWEEN : ∃ d, MDictC K w d betweenKV ∧ mg "BETWEEN" = some (.ref d)
  e_INNER : ∃ d, MDict K w d innerKV ∧ mg "INNER" = some (.ref d)
  e_WORDS_AHEAD : ∃ d, MDictC K w d waKV ∧ mg "WORDS_AHEAD" = some (.ref d)
  e_WORDS_BETWEEN : ∃ d, MDictC K w d wbKV ∧ mg "WORDS_BETWEEN" = some (.ref d)
structure Cl_Reader (K : PySem.W.Frag) (mg : Str → Option Value) (C : Addr) : Prop where
  cl : Cls K C
  m : mg "Reader" = some (.ref C)
  n_text : NoAttr K C "text"
  n_place : NoAttr K C "place"
  n_parts_left : NoAttr K C "parts_left"
theorem bt_ValueError : bootBuiltins "ValueError" = some (.type "ValueError") := by decide +kernel
theorem bt_enumerate : bootBuiltins "enumerate" = some (.type "enumerate") := by decide +kernel
theorem bt_isinstance : bootBuiltins "isinstance" = some (.builtin "isinstance") := by decide +kernel
theorem bt_len : bootBuiltins "len" = some (.builtin "len") := by decide +kernel
theorem bt_list : bootBuiltins "list" = some (.type "list") := by decide +kernel
theorem bt_max : bootBuiltins "max" = some (.builtin "max") := by decide +kernel
theorem bt_range : bootBuiltins "range" = some (.type "range") := by decide +kernel
theorem bt_str : bootBuiltins "str" = some (.type "str") := by decide +kernel
section
variable {P : Program} {w : World} {K : PySem.W.Frag} {mg : Str → Option Value} {base : Heap}
noncomputable abbrev st_are_signs : Stmt := top 9
noncomputable abbrev N_are_signs : List Str := ["some"]
theorem sc_are_signs : FnScope ["some"] ["some"] (defScope st_are_signs) := ⟨rfl, rfl, rfl, by decide +kernel, rfl, by decide +kernel, by decide +kernel⟩
noncomputable def w_are_signs  (sp_signs_in : DSp) : WS := (wRet (wAndV (wIsi "str" (wV 0)) (wAndV (wB (wOp neD (wV 0) (wC (.str "")))) (wB (wOp (eqD 60 false) (wV 0) (wCall sp_signs_in (wCons (wV 0) wNil)))))))
set_option maxHeartbeats 4000000 in
theorem ok_are_signs {k : Nat} {f : Addr} {fd : FuncData} {sp : DSp} {l_signs_in : Nat} {a_signs_in : Addr} {fd_signs_in : FuncData} {sp_signs_in : DSp} (D_signs_in : Df K mg "signs_in" (top 10) ["text"] a_signs_in fd_signs_in) (G_signs_in : FnD P w K mg base l_signs_in a_signs_in fd_signs_in ["text"] sp_signs_in) (h_signs_in : l_signs_in ≤ k) (T : Txt K mg w) (D : Df K mg "are_signs" st_are_signs ["some"] f fd)
    (hw : ∀ rs r, rs.length = 1 → sp rs r → w_are_signs  sp_signs_in (Ends1 r) (startD N_are_signs rs)) : FnD P w K mg base (k + 1) f fd ["some"] sp := by
  refine D.ok sc_are_signs (ws := w_are_signs  sp_signs_in) (fun cdv A outer s H E hr => ?_) hw
  have nd := sc_are_signs.nd
  exact (DSs.one (DS.ret (DE.and (DE.isi (DE.var (pv 0)) rfl T.m_isinstance bt_isinstance rfl T.m_str bt_str (kit_all _ (by decide))) (DE.and (DE.cmp cd_ne neD_mono (DE.var (pv 0)) DE.str (nomark _)) (DE.and1 (DE.cmp (cd_eq (n := 60) (hu60 hr)) eqD_mono (DE.var (pv 0)) (DE.call G_signs_in (hr.mono h_signs_in) rfl D_signs_in.m D_signs_in.k D_signs_in.b (DA.cons (DE.var (pv 0)) DA.nil)) (nomark _)))))))
noncomputable abbrev st_signs_in : Stmt := top 10
noncomputable abbrev N_signs_in : List Str := ["text"]
theorem sc_signs_in : FnScope ["text"] ["text"] (defScope st_signs_in) := ⟨rfl, rfl, rfl, by decide +kernel, rfl, by decide +kernel, by decide +kernel⟩
noncomputable def w_signs_in   : WS := (wRet (wJoin (wC (.str "")) (wComp 1 [0] (jStr (wC (.str "01ab"))) (gNm 0) (wOp (inD false) (wV 0) (wV 1)) (wFz (wV 0)))))
set_option maxHeartbeats 4000000 in
theorem ok_signs_in {k : Nat} {f : Addr} {fd : FuncData} {sp : DSp} (T : Txt K mg w) (D : Df K mg "signs_in" st_signs_in ["text"] f fd)
    (hw : ∀ rs r, rs.length = 1 → sp rs r → w_signs_in   (Ends1 r) (startD N_signs_in rs)) : FnD P w K mg base (k + 1) f fd ["text"] sp := by
  refine D.ok sc_signs_in (ws := w_signs_in  ) (fun cdv A outer s H E hr => ?_) hw
  have nd := sc_signs_in.nd
  exact (DSs.one (DS.ret (DE.join DE.str (DE.comp rfl (blk_of (sc := defScope st_signs_in) (N0 := ["text"]) (N := ["sign", "text"]) (nt := 1) (cap := [0]) rfl rfl (by decide +kernel)) (DIE.str (DE.gstr rfl T.c_SIGNS)) (fun _ _ _ _ => (DG.nm (i := 0) (show List.Nodup (["sign", "text"] : List Str) by decide +kernel) rfl (by first | exact Or.inl rfl | exact Or.inr rfl))) (fun _ _ _ _ => (DIf.one (DT.cmp cd_in inD_mono (DE.var (pv 0)) (DE.var (pv 1)) (by with_unfolding_all rfl)))) (fun _ _ _ _ => (DE.fz (DE.var (pv 0))))))))
noncomputable abbrev st_inner_shapes : Stmt := top 11
noncomputable abbrev N_inner_shapes : List Str := ["shape"]
theorem sc_inner_shapes : FnScope ["shape"] ["shape"] (defScope st_inner_shapes) := ⟨rfl, rfl, rfl, by decide +kernel, rfl, by decide +kernel, by decide +kernel⟩
noncomputable def w_inner_shapes   : WS := (wSeq (wIfS (wOp (eqD 60 false) (wMget innerKV (wOp ixD (wV 0) (wC (.int 0)))) (wC (.int 0))) (wRet (wLst wNil)) wNext) (wRet (wCB listD (wCons (wSl (wV 0) (oSome (wC (.int 1))) oNone) wNil))))
set_option maxHeartbeats 4000000 in
theorem ok_inner_shapes {k : Nat} {f : Addr} {fd : FuncData} {sp : DSp} (T : Txt K mg w) (D : Df K mg "inner_shapes" st_inner_shapes ["shape"] f fd)
    (hw : ∀ rs r, rs.length = 1 → sp rs r → w_inner_shapes   (Ends1 r) (startD N_inner_shapes rs)) : FnD P w K mg base (k + 1) f fd ["shape"] sp := by
  refine D.ok sc_inner_shapes (ws := w_inner_shapes  ) (fun cdv A outer s H E hr => ?_) hw
  have nd := sc_inner_shapes.nd
  obtain ⟨da_INNER, md_INNER, mn_INNER⟩ := T.e_INNER
  exact (DSs.cons (DS.ife (DT.cmp (cd_eq (n := 60) (hu60 hr)) eqD_mono (DE.mget md_INNER rfl mn_INNER (DE.ix (DE.var (pv 0)) DE.int (fun _ _ => rfl)) (fun _ _ => rfl)) DE.int (nomark _)) (DSs.one (DS.ret (DE.lst DA.nil))) DSs.nil) (DSs.one (DS.ret (DE.callTy call_listR listD_mono rfl T.m_list bt_list (DA.cons (DE.slice (DE.var (pv 0)) (DO.some DE.int) DO.none) DA.nil)))))
noncomputable abbrev st_Reader___init__ : Stmt := inClass (top 15) 0
noncomputable abbrev N_Reader___init__ : List Str := ["self", "text"]
theorem sc_Reader___init__ : FnScope ["self", "text"] ["self", "text"] (defScope st_Reader___init__) := ⟨rfl, rfl, rfl, by decide +kernel, rfl, by decide +kernel, by decide +kernel⟩
noncomputable def w_Reader___init__ (C_Reader : Addr)  : WS := (wSeq (wFldS C_Reader 0 "text" (wV 1)) (wSeq (wFldS C_Reader 0 "place" (wC (.int 0))) (wFldS C_Reader 0 "parts_left" (wC (.int 15)))))
set_option maxHeartbeats 4000000 in
theorem ok_Reader___init__ {C_Reader : Addr} (Z_Reader : Cl_Reader K mg C_Reader) {k : Nat} {f : Addr} {fd : FuncData} {sp : MSp} (T : Txt K mg w) (D : DfM K "__init__" "Reader.__init__" st_Reader___init__ ["self", "text"] f fd)
    (hw : ∀ a fs rs d fs', rs.length = 1 → sp fs rs d fs' → w_Reader___init__ C_Reader  (EndsM a C_Reader d fs') (startD N_Reader___init__ (.ms a C_Reader .non fs :: rs))) : FnM P w K mg base (k + 1) f fd ["self", "text"] C_Reader 1 sp := by
  refine Fun.okM (n := 1) D.F sc_Reader___init__ rfl (ws := w_Reader___init__ C_Reader ) (fun cdv A outer s H E a hr => ?_) hw
  have nd := sc_Reader___init__.nd
  exact (DSs.cons (DS.fld (pv 0) (DE.var (pv 1)) Z_Reader.cl Z_Reader.n_text) (DSs.cons (DS.fld (pv 0) DE.int Z_Reader.cl Z_Reader.n_place) (DSs.one (DS.fld (pv 0) (DE.gint rfl T.c_MOST_PARTS) Z_Reader.cl Z_Reader.n_parts_left))))
noncomputable abbrev st_Reader_sign_here : Stmt := inClass (top 15) 1
noncomputable abbrev N_Reader_sign_here : List Str := ["self"]
theorem sc_Reader_sign_here : FnScope ["self"] ["self"] (defScope st_Reader_sign_here) := ⟨rfl, rfl, rfl, by decide +kernel, rfl, by decide +kernel, by decide +kernel⟩
noncomputable def w_Reader_sign_here (C_Reader : Addr)  : WS := (wRetM C_Reader (mOf (wSl (wFld C_Reader 0 "text") (oSome (wFld C_Reader 0 "place")) (oSome (wOp addD (wFld C_Reader 0 "place") (wC (.int 1)))))))
set_option maxHeartbeats 4000000 in
theorem ok_Reader_sign_here {C_Reader : Addr} (Z_Reader : Cl_Reader K mg C_Reader) {k : Nat} {f : Addr} {fd : FuncData} {sp : MSp} (T : Txt K mg w) (D : DfM K "sign_here" "Reader.sign_here" st_Reader_sign_here ["self"] f fd)
    (hw : ∀ a fs rs d fs', rs.length = 0 → sp fs rs d fs' → w_Reader_sign_here C_Reader  (EndsM a C_Reader d fs') (startD N_Reader_sign_here (.ms a C_Reader .non fs :: rs))) : FnM P w K mg base (k + 1) f fd ["self"] C_Reader 0 sp := by
  refine Fun.okM (n := 0) D.F sc_Reader_sign_here rfl (ws := w_Reader_sign_here C_Reader ) (fun cdv A outer s H E a hr => ?_) hw
  have nd := sc_Reader_sign_here.nd
  exact (DSs.one (DS.retM (C := C_Reader) (DM.of (DE.slice (DE.fld (pv 0) Z_Reader.cl Z_Reader.n_text) (DO.some (DE.fld (pv 0) Z_Reader.cl Z_Reader.n_place)) (DO.some (DE.op od_add addD_mono (DE.fld (pv 0) Z_Reader.cl Z_Reader.n_place) DE.int))))))
noncomputable abbrev st_Reader_take_one_of : Stmt := inClass (top 15) 2
noncomputable abbrev N_Reader_take_one_of : List Str := ["self", "some", "sign"]
theorem sc_Reader_take_one_of : FnScope ["self", "some", "sign"] ["self", "some"] (defScope st_Reader_take_one_of) := ⟨rfl, rfl, rfl, by decide +kernel, rfl, by decide +kernel, by decide +kernel⟩
noncomputable def w_Reader_take_one_of (C_Reader : Addr) (C_NoWriting : Addr) (sp_Reader_sign_here : MSp) (XE : Addr → Prop) : WS := (wSeq (wSetM 2 (mMeth0 C_Reader 0 "sign_here" sp_Reader_sign_here)) (wSeq (wIfS (wOr (wOp (eqD 60 false) (wV 2) (wC (.str ""))) (wOp (inD true) (wV 2) (wV 1))) (wRaise XE C_NoWriting (wFstr (wFld C_Reader 0 "place"))) wNext) (wSeq (wFldAug C_Reader 0 "place" (fun i j => i + j) (wC (.int 1))) (wRetM C_Reader (mOf (wV 2))))))
set_option maxHeartbeats 4000000 in
theorem ok_Reader_take_one_of {C_Reader : Addr} (Z_Reader : Cl_Reader K mg C_Reader) {C_NoWriting : Addr} (O_NoWriting : OwnCls "NoWriting" C_NoWriting mroV "ValueError.__new__" mg base) {k : Nat} {f : Addr} {fd : FuncData} {sp : MSpX} {l_Reader_sign_here : Nat} {a_Reader_sign_here : Addr} {fd_Reader_sign_here : FuncData} {sp_Reader_sign_here : MSp} (D_Reader_sign_here : DfM K "sign_here" "Reader.sign_here" (inClass (top 15) 1) ["self"] a_Reader_sign_here fd_Reader_sign_here) (M_Reader_sign_here : Meth K C_Reader "sign_here" a_Reader_sign_here) (G_Reader_sign_here : FnM P w K mg base l_Reader_sign_here a_Reader_sign_here fd_Reader_sign_here ["self"] C_Reader 0 sp_Reader_sign_here) (h_Reader_sign_here : l_Reader_sign_here ≤ k) (T : Txt K mg w) (D : DfM K "take_one_of" "Reader.take_one_of" st_Reader_take_one_of ["self", "some"] f fd)
    (hw : ∀ a fs rs o, rs.length = 1 → sp fs rs o → w_Reader_take_one_of C_Reader C_NoWriting sp_Reader_sign_here (XEofM o) (EndsMO a C_Reader o) (startD N_Reader_take_one_of (.ms a C_Reader .non fs :: rs))) : FnMX P w K mg base (k + 1) f fd ["self", "some"] C_Reader 1 sp := by
  refine Fun.okMX (n := 1) D.F sc_Reader_take_one_of rfl (ws := w_Reader_take_one_of C_Reader C_NoWriting sp_Reader_sign_here) (fun cdv A outer s H E XE a hr => ?_) hw
  have nd := sc_Reader_take_one_of.nd
  exact (DSs.cons (DS.setM (i := 2) (DM.meth0 (pv 0) Z_Reader.cl M_Reader_sign_here G_Reader_sign_here (hr.mono h_Reader_sign_here) D_Reader_sign_here.b) nd rfl (by first | exact Or.inl rfl | exact Or.inr rfl)) (DSs.cons (DS.ife (DW.t (DW.or (DT.cmp (cd_eq (n := 60) (hu60 hr)) eqD_mono (DE.var (pv 2)) DE.str (nomark _)) (DW.or1 (DT.cmp cd_notin inD_mono (DE.var (pv 2)) (DE.var (pv 1)) (by with_unfolding_all rfl))))) (DSs.one (DS.raise O_NoWriting rfl rfl rfl (DE.fstr (by decide) (DE.fld (pv 0) Z_Reader.cl Z_Reader.n_place)))) DSs.nil) (DSs.cons (DS.fldaug (g := (fun i j => i + j)) (pv 0) DE.int in_addD Z_Reader.cl Z_Reader.n_place) (DSs.one (DS.retM (C := C_Reader) (DM.of (DE.var (pv 2))))))))
noncomputable abbrev st_Reader_read_shape : Stmt := inClass (top 15) 3
noncomputable abbrev N_Reader_read_shape : List Str := ["self", "sign"]
theorem sc_Reader_read_shape : FnScope ["self", "sign"] ["self"] (defScope st_Reader_read_shape) := ⟨rfl, rfl, rfl, by decide +kernel, rfl, by decide +kernel, by decide +kernel⟩
noncomputable def w_Reader_read_shape (C_Reader : Addr) (C_NoWriting : Addr) (sp_Reader_take_one_of : MSpX) (sp_Reader_read_shape : MSpX) (sp_Reader_read_signs : MSpX) (sp_Reader_read_in_brackets : MSpX) (XE : Addr → Prop) : WS := (wSeq (wIfS (wOp (eqD 60 false) (wFld C_Reader 0 "parts_left") (wC (.int 0))) (wRaise XE C_NoWriting (wC (.str "the shape has too many parts"))) wNext) (wSeq (wFldAug C_Reader 0 "parts_left" (fun i j => i - j) (wC (.int 1))) (wSeq (wSetM 1 (mMethX XE C_Reader 0 "take_one_of" sp_Reader_take_one_of (wCons (wC (.str "{([!*01ab")) wNil))) (wSeq (wIfS (wMinC waKV (wV 1)) (wRetM C_Reader (mTup (maCons (mOf (wDsub waKV (wV 1))) (maCons (mMeth0X XE C_Reader 0 "read_shape" sp_Reader_read_shape) maNil)))) wNext) (wSeq (wIfS (wOp (eqD 60 false) (wV 1) (wC (.str "{"))) (wSeq (wExprM (mMethX XE C_Reader 0 "take_one_of" sp_Reader_take_one_of (wCons (wC (.str "}")) wNil))) (wRetM C_Reader (mOf (wTup (wCons (wFz (wC (.str "none"))) wNil))))) wNext) (wSeq (wIfS (wOp (eqD 60 false) (wV 1) (wC (.str "["))) (wRetM C_Reader (mMeth0X XE C_Reader 0 "read_signs" sp_Reader_read_signs)) wNext) (wSeq (wIfS (wOp (eqD 60 false) (wV 1) (wC (.str "("))) (wRetM C_Reader (mMeth0X XE C_Reader 0 "read_in_brackets" sp_Reader_read_in_brackets)) wNext) (wRetM C_Reader (mOf (wTup (wCons (wFz (wC (.str "signs"))) (wCons (wFz (wV 1)) wNil))))))))))))
set_option maxHeartbeats 4000000 in
theorem ok_Reader_read_shape {C_Reader : Addr} (Z_Reader : Cl_Reader K mg C_Reader) {C_NoWriting : Addr} (O_NoWriting : OwnCls "NoWriting" C_NoWriting mroV "ValueError.__new__" mg base) {k : Nat} {f : Addr} {fd : FuncData} {sp : MSpX} {l_Reader_take_one_of : Nat} {a_Reader_take_one_of : Addr} {fd_Reader_take_one_of : FuncData} {sp_Reader_take_one_of : MSpX} {l_Reader_read_shape : Nat} {a_Reader_read_shape : Addr} {fd_Reader_read_shape : FuncData} {sp_Reader_read_shape : MSpX} {l_Reader_read_signs : Nat} {a_Reader_read_signs : Addr} {fd_Reader_read_signs : FuncData} {sp_Reader_read_signs : MSpX} {l_Reader_read_in_brackets : Nat} {a_Reader_read_in_brackets : Addr} {fd_Reader_read_in_brackets : FuncData} {sp_Reader_read_in_brackets : MSpX} (D_Reader_take_one_of : DfM K "take_one_of" "Reader.take_one_of" (inClass (top 15) 2) ["self", "some"] a_Reader_take_one_of fd_Reader_take_one_of) (M_Reader_take_one_of : Meth K C_Reader "take_one_of" a_Reader_take_one_of) (G_Reader_take_one_of : FnMX P w K mg base l_Reader_take_one_of a_Reader_take_one_of fd_Reader_take_one_of ["self", "some"] C_Reader 1 sp_Reader_take_one_of) (h_Reader_take_one_of : l_Reader_take_one_of ≤ k) (D_Reader_read_shape : DfM K "read_shape" "Reader.read_shape" (inClass (top 15) 3) ["self"] a_Reader_read_shape fd_Reader_read_shape) (M_Reader_read_shape : Meth K C_Reader "read_shape" a_Reader_read_shape) (G_Reader_read_shape : FnMX P w K mg base l_Reader_read_shape a_Reader_read_shape fd_Reader_read_shape ["self"] C_Reader 0 sp_Reader_read_shape) (h_Reader_read_shape : l_Reader_read_shape ≤ k) (D_Reader_read_signs : DfM K "read_signs" "Reader.read_signs" (inClass (top 15) 4) ["self"] a_Reader_read_signs fd_Reader_read_signs) (M_Reader_read_signs : Meth K C_Reader "read_signs" a_Reader_read_signs) (G_Reader_read_signs : FnMX P w K mg base l_Reader_read_signs a_Reader_read_signs fd_Reader_read_signs ["self"] C_Reader 0 sp_Reader_read_signs) (h_Reader_read_signs : l_Reader_read_signs ≤ k) (D_Reader_read_in_brackets : DfM K "read_in_brackets" "Reader.read_in_brackets" (inClass (top 15) 5) ["self"] a_Reader_read_in_brackets fd_Reader_read_in_brackets) (M_Reader_read_in_brackets : Meth K C_Reader "read_in_brackets" a_Reader_read_in_brackets) (G_Reader_read_in_brackets : FnMX P w K mg base l_Reader_read_in_brackets a_Reader_read_in_brackets fd_Reader_read_in_brackets ["self"] C_Reader 0 sp_Reader_read_in_brackets) (h_Reader_read_in_brackets : l_Reader_read_in_brackets ≤ k) (T : Txt K mg w) (D : DfM K "read_shape" "Reader.read_shape" st_Reader_read_shape ["self"] f fd)
    (hw : ∀ a fs rs o, rs.length = 0 → sp fs rs o → w_Reader_read_shape C_Reader C_NoWriting sp_Reader_take_one_of sp_Reader_read_shape sp_Reader_read_signs sp_Reader_read_in_brackets (XEofM o) (EndsMO a C_Reader o) (startD N_Reader_read_shape (.ms a C_Reader .non fs :: rs))) : FnMX P w K mg base (k + 1) f fd ["self"] C_Reader 0 sp := by
  refine Fun.okMX (n := 0) D.F sc_Reader_read_shape rfl (ws := w_Reader_read_shape C_Reader C_NoWriting sp_Reader_take_one_of sp_Reader_read_shape sp_Reader_read_signs sp_Reader_read_in_brackets) (fun cdv A outer s H E XE a hr => ?_) hw
  have nd := sc_Reader_read_shape.nd
  obtain ⟨da_WORDS_AHEAD, md_WORDS_AHEAD, mn_WORDS_AHEAD⟩ := T.e_WORDS_AHEAD
  exact (DSs.cons (DS.ife (DT.cmp (cd_eq (n := 60) (hu60 hr)) eqD_mono (DE.fld (pv 0) Z_Reader.cl Z_Reader.n_parts_left) DE.int (nomark _)) (DSs.one (DS.raise O_NoWriting rfl rfl rfl DE.str)) DSs.nil) (DSs.cons (DS.fldaug (g := (fun i j => i - j)) (pv 0) DE.int in_subD Z_Reader.cl Z_Reader.n_parts_left) (DSs.cons (DS.setM (i := 1) (DM.methX (pv 0) Z_Reader.cl M_Reader_take_one_of G_Reader_take_one_of (hr.mono h_Reader_take_one_of) D_Reader_take_one_of.b (DA.cons DE.str DA.nil) rfl) nd rfl (by first | exact Or.inl rfl | exact Or.inr rfl)) (DSs.cons (DS.ife (DT.minC md_WORDS_AHEAD rfl mn_WORDS_AHEAD (DE.var (pv 1))) (DSs.one (DS.retM (C := C_Reader) (DM.tup (DMA.cons (DM.of (DE.mgetC md_WORDS_AHEAD rfl mn_WORDS_AHEAD (DE.var (pv 1)) (fun _ _ => rfl))) (DMA.cons (DM.meth0X (pv 0) Z_Reader.cl M_Reader_read_shape G_Reader_read_shape (hr.mono h_Reader_read_shape) D_Reader_read_shape.b rfl) DMA.nil))))) DSs.nil) (DSs.cons (DS.ife (DT.cmp (cd_eq (n := 60) (hu60 hr)) eqD_mono (DE.var (pv 1)) DE.str (nomark _)) (DSs.cons (DS.exprM (DM.methX (pv 0) Z_Reader.cl M_Reader_take_one_of G_Reader_take_one_of (hr.mono h_Reader_take_one_of) D_Reader_take_one_of.b (DA.cons DE.str DA.nil) rfl)) (DSs.one (DS.retM (C := C_Reader) (DM.of (DE.tup (DA.cons (DE.fz DE.str) DA.nil)))))) DSs.nil) (DSs.cons (DS.ife (DT.cmp (cd_eq (n := 60) (hu60 hr)) eqD_mono (DE.var (pv 1)) DE.str (nomark _)) (DSs.one (DS.retM (C := C_Reader) (DM.meth0X (pv 0) Z_Reader.cl M_Reader_read_signs G_Reader_read_signs (hr.mono h_Reader_read_signs) D_Reader_read_signs.b rfl))) DSs.nil) (DSs.cons (DS.ife (DT.cmp (cd_eq (n := 60) (hu60 hr)) eqD_mono (DE.var (pv 1)) DE.str (nomark _)) (DSs.one (DS.retM (C := C_Reader) (DM.meth0X (pv 0) Z_Reader.cl M_Reader_read_in_brackets G_Reader_read_in_brackets (hr.mono h_Reader_read_in_brackets) D_Reader_read_in_brackets.b rfl))) DSs.nil) (DSs.one (DS.retM (C := C_Reader) (DM.of (DE.tup (DA.cons (DE.fz DE.str) (DA.cons (DE.fz (DE.var (pv 1))) DA.nil)))))))))))))
noncomputable abbrev st_Reader_read_signs : Stmt := inClass (top 15) 4
noncomputable abbrev N_Reader_read_signs : List Str := ["self", "end", "some"]
theorem sc_Reader_read_signs : FnScope ["self", "end", "some"] ["self"] (defScope st_Reader_read_signs) := ⟨rfl, rfl, rfl, by decide +kernel, rfl, by decide +kernel, by decide +kernel⟩
noncomputable def w_Reader_read_signs (C_Reader : Addr) (C_NoWriting : Addr) (sp_are_signs : DSp) (XE : Addr → Prop) : WS := (wSeq (wSet 1 (wFind3 (wFld C_Reader 0 "text") (wC (.str "]")) (wFld C_Reader 0 "place"))) (wSeq (wSet 2 (wSl (wFld C_Reader 0 "text") (oSome (wFld C_Reader 0 "place")) (oSome (wCB max2D (wCons (wV 1) (wCons (wFld C_Reader 0 "place") wNil)))))) (wSeq (wIfS (wOr (wOp (cmpI fun i j => decide (i < j)) (wCB lenD (wCons (wV 2) wNil)) (wC (.int 2))) (wNot (wTru (wCall sp_are_signs (wCons (wV 2) wNil))))) (wRaise XE C_NoWriting (wFstr (wFld C_Reader 0 "place"))) wNext) (wSeq (wFldS C_Reader 0 "place" (wOp addD (wV 1) (wC (.int 1)))) (wRetM C_Reader (mOf (wTup (wCons (wFz (wC (.str "signs"))) (wCons (wFz (wV 2)) wNil)))))))))
set_option maxHeartbeats 4000000 in
theorem ok_Reader_read_signs {C_Reader : Addr} (Z_Reader : Cl_Reader K mg C_Reader) {C_NoWriting : Addr} (O_NoWriting : OwnCls "NoWriting" C_NoWriting mroV "ValueError.__new__" mg base) {k : Nat} {f : Addr} {fd : FuncData} {sp : MSpX} {l_are_signs : Nat} {a_are_signs : Addr} {fd_are_signs : FuncData} {sp_are_signs : DSp} (D_are_signs : Df K mg "are_signs" (top 9) ["some"] a_are_signs fd_are_signs) (G_are_signs : FnD P w K mg base l_are_signs a_are_signs fd_are_signs ["some"] sp_are_signs) (h_are_signs : l_are_signs ≤ k) (T : Txt K mg w) (D : DfM K "read_signs" "Reader.read_signs" st_Reader_read_signs ["self"] f fd)
    (hw : ∀ a fs rs o, rs.length = 0 → sp fs rs o → w_Reader_read_signs C_Reader C_NoWriting sp_are_signs (XEofM o) (EndsMO a C_Reader o) (startD N_Reader_read_signs (.ms a C_Reader .non fs :: rs))) : FnMX P w K mg base (k + 1) f fd ["self"] C_Reader 0 sp := by
  refine Fun.okMX (n := 0) D.F sc_Reader_read_signs rfl (ws := w_Reader_read_signs C_Reader C_NoWriting sp_are_signs) (fun cdv A outer s H E XE a hr => ?_) hw
  have nd := sc_Reader_read_signs.nd
  exact (DSs.cons (DS.set (i := 1) (DE.find3 (DE.fld (pv 0) Z_Reader.cl Z_Reader.n_text) DE.str (DE.fld (pv 0) Z_Reader.cl Z_Reader.n_place)) nd rfl (by first | exact Or.inl rfl | exact Or.inr rfl)) (DSs.cons (DS.set (i := 2) (DE.slice (DE.fld (pv 0) Z_Reader.cl Z_Reader.n_text) (DO.some (DE.fld (pv 0) Z_Reader.cl Z_Reader.n_place)) (DO.some (DE.callB (call_max2R rfl) max2D_mono rfl T.m_max bt_max (DA.cons (DE.var (pv 1)) (DA.cons (DE.fld (pv 0) Z_Reader.cl Z_Reader.n_place) DA.nil))))) nd rfl (by first | exact Or.inl rfl | exact Or.inr rfl)) (DSs.cons (DS.ife (DW.t (DW.or (DT.cmp cd_lt cmpI_mono (DE.callB call_lenR lenD_mono rfl T.m_len bt_len (DA.cons (DE.var (pv 2)) DA.nil)) DE.int (nomark _)) (DW.or1 (DT.nt (DT.tru (DE.call G_are_signs (hr.mono h_are_signs) rfl D_are_signs.m D_are_signs.k D_are_signs.b (DA.cons (DE.var (pv 2)) DA.nil)) (fun _ => rfl)))))) (DSs.one (DS.raise O_NoWriting rfl rfl rfl (DE.fstr (by decide) (DE.fld (pv 0) Z_Reader.cl Z_Reader.n_place)))) DSs.nil) (DSs.cons (DS.fld (pv 0) (DE.op od_add addD_mono (DE.var (pv 1)) DE.int) Z_Reader.cl Z_Reader.n_place) (DSs.one (DS.retM (C := C_Reader) (DM.of (DE.tup (DA.cons (DE.fz DE.str) (DA.cons (DE.fz (DE.var (pv 2))) DA.nil))))))))))
noncomputable abbrev st_Reader_read_in_brackets : Stmt := inClass (top 15) 5
noncomputable abbrev N_Reader_read_in_brackets : List Str := ["self", "one", "word", "other"]
theorem sc_Reader_read_in_brackets : FnScope ["self", "one", "word", "other"] ["self"] (defScope st_Reader_read_in_brackets) := ⟨rfl, rfl, rfl, by decide +kernel, rfl, by decide +kernel, by decide +kernel⟩
noncomputable def w_Reader_read_in_brackets (C_Reader : Addr) (sp_Reader_sign_here : MSp) (sp_Reader_read_shape : MSpX) (sp_Reader_take_one_of : MSpX) (XE : Addr → Prop) : WS := (wSeq (wIfM (mCmp (eqD 60 false) (mMeth0 C_Reader 0 "sign_here" sp_Reader_sign_here) (wC (.str ")"))) (wSeq (wFldAug C_Reader 0 "place" (fun i j => i + j) (wC (.int 1))) (wRetM C_Reader (mOf (wTup (wCons (wFz (wC (.str "empty"))) wNil))))) wNext) (wSeq (wSetM 1 (mMeth0X XE C_Reader 0 "read_shape" sp_Reader_read_shape)) (wSeq (wSetM 2 (mDsub wbKV (mMethX XE C_Reader 0 "take_one_of" sp_Reader_take_one_of (wCons (wC (.str " |&")) wNil)))) (wSeq (wSetM 3 (mMeth0X XE C_Reader 0 "read_shape" sp_Reader_read_shape)) (wSeq (wExprM (mMethX XE C_Reader 0 "take_one_of" sp_Reader_take_one_of (wCons (wC (.str ")")) wNil))) (wRetM C_Reader (mOf (wTup (wCons (wFz (wV 2)) (wCons (wFz (wV 1)) (wCons (wFz (wV 3)) wNil)))))))))))
set_option maxHeartbeats 4000000 in
theorem ok_Reader_read_in_brackets {C_Reader : Addr} (Z_Reader : Cl_Reader K mg C_Reader) {k : Nat} {f : Addr} {fd : FuncData} {sp : MSpX} {l_Reader_sign_here : Nat} {a_Reader_sign_here : Addr} {fd_Reader_sign_here : FuncData} {sp_Reader_sign_here : MSp} {l_Reader_read_shape : Nat} {a_Reader_read_shape : Addr} {fd_Reader_read_shape : FuncData} {sp_Reader_read_shape : MSpX} {l_Reader_take_one_of : Nat} {a_Reader_take_one_of : Addr} {fd_Reader_take_one_of : FuncData} {sp_Reader_take_one_of : MSpX} (D_Reader_sign_here : DfM K "sign_here" "Reader.sign_here" (inClass (top 15) 1) ["self"] a_Reader_sign_here fd_Reader_sign_here) (M_Reader_sign_here : Meth K C_Reader "sign_here" a_Reader_sign_here) (G_Reader_sign_here : FnM P w K mg base l_Reader_sign_here a_Reader_sign_here fd_Reader_sign_here ["self"] C_Reader 0 sp_Reader_sign_here) (h_Reader_sign_here : l_Reader_sign_here ≤ k) (D_Reader_read_shape : DfM K "read_shape" "Reader.read_shape" (inClass (top 15) 3) ["self"] a_Reader_read_shape fd_Reader_read_shape) (M_Reader_read_shape : Meth K C_Reader "read_shape" a_Reader_read_shape) (G_Reader_read_shape : FnMX P w K mg base l_Reader_read_shape a_Reader_read_shape fd_Reader_read_shape ["self"] C_Reader 0 sp_Reader_read_shape) (h_Reader_read_shape : l_Reader_read_shape ≤ k) (D_Reader_take_one_of : DfM K "take_one_of" "Reader.take_one_of" (inClass (top 15) 2) ["self", "some"] a_Reader_take_one_of fd_Reader_take_one_of) (M_Reader_take_one_of : Meth K C_Reader "take_one_of" a_Reader_take_one_of) (G_Reader_take_one_of : FnMX P w K mg base l_Reader_take_one_of a_Reader_take_one_of fd_Reader_take_one_of ["self", "some"] C_Reader 1 sp_Reader_take_one_of) (h_Reader_take_one_of : l_Reader_take_one_of ≤ k) (T : Txt K mg w) (D : DfM K "read_in_brackets" "Reader.read_in_brackets" st_Reader_read_in_brackets ["self"] f fd)
    (hw : ∀ a fs rs o, rs.length = 0 → sp fs rs o → w_Reader_read_in_brackets C_Reader sp_Reader_sign_here sp_Reader_read_shape sp_Reader_take_one_of (XEofM o) (EndsMO a C_Reader o) (startD N_Reader_read_in_brackets (.ms a C_Reader .non fs :: rs))) : FnMX P w K mg base (k + 1) f fd ["self"] C_Reader 0 sp := by
  refine Fun.okMX (n := 0) D.F sc_Reader_read_in_brackets rfl (ws := w_Reader_read_in_brackets C_Reader sp_Reader_sign_here sp_Reader_read_shape sp_Reader_take_one_of) (fun cdv A outer s H E XE a hr => ?_) hw
  have nd := sc_Reader_read_in_brackets.nd
  obtain ⟨da_WORDS_BETWEEN, md_WORDS_BETWEEN, mn_WORDS_BETWEEN⟩ := T.e_WORDS_BETWEEN
  exact (DSs.cons (DS.ifeM (DMT.cmp (cd_eq (n := 60) (hu60 hr)) eqD_mono (DM.meth0 (pv 0) Z_Reader.cl M_Reader_sign_here G_Reader_sign_here (hr.mono h_Reader_sign_here) D_Reader_sign_here.b) DE.str (nomark _)) (DSs.cons (DS.fldaug (g := (fun i j => i + j)) (pv 0) DE.int in_addD Z_Reader.cl Z_Reader.n_place) (DSs.one (DS.retM (C := C_Reader) (DM.of (DE.tup (DA.cons (DE.fz DE.str) DA.nil)))))) DSs.nil) (DSs.cons (DS.setM (i := 1) (DM.meth0X (pv 0) Z_Reader.cl M_Reader_read_shape G_Reader_read_shape (hr.mono h_Reader_read_shape) D_Reader_read_shape.b rfl) nd rfl (by first | exact Or.inl rfl | exact Or.inr rfl)) (DSs.cons (DS.setM (i := 2) (DM.mgetC md_WORDS_BETWEEN rfl mn_WORDS_BETWEEN (DM.methX (pv 0) Z_Reader.cl M_Reader_take_one_of G_Reader_take_one_of (hr.mono h_Reader_take_one_of) D_Reader_take_one_of.b (DA.cons DE.str DA.nil) rfl) (fun _ _ => rfl)) nd rfl (by first | exact Or.inl rfl | exact Or.inr rfl)) (DSs.cons (DS.setM (i := 3) (DM.meth0X (pv 0) Z_Reader.cl M_Reader_read_shape G_Reader_read_shape (hr.mono h_Reader_read_shape) D_Reader_read_shape.b rfl) nd rfl (by first | exact Or.inl rfl | exact Or.inr rfl)) (DSs.cons (DS.exprM (DM.methX (pv 0) Z_Reader.cl M_Reader_take_one_of G_Reader_take_one_of (hr.mono h_Reader_take_one_of) D_Reader_take_one_of.b (DA.cons DE.str DA.nil) rfl)) (DSs.one (DS.retM (C := C_Reader) (DM.of (DE.tup (DA.cons (DE.fz (DE.var (pv 2))) (DA.cons (DE.fz (DE.var (pv 1))) (DA.cons (DE.fz (DE.var (pv 3))) DA.nil))))))))))))
noncomputable abbrev st_read : Stmt := top 16
noncomputable abbrev N_read : List Str := ["text", "reader", "shape"]
theorem sc_read : FnScope ["text", "reader", "shape"] ["text"] (defScope st_read) := ⟨rfl, rfl, rfl, by decide +kernel, rfl, by decide +kernel, by decide +kernel⟩
noncomputable def w_read (C_Reader : Addr) (C_NoWriting : Addr) (sp_Reader___init__ : MSp) (sp_Reader_read_shape : MSpX) (sp_Reader_sign_here : MSp) (XE : Addr → Prop) : WS := (wSeq (wMake C_Reader 1 sp_Reader___init__ (wCons (wV 0) wNil)) (wSeq (wSetM 2 (mMeth0X XE C_Reader 1 "read_shape" sp_Reader_read_shape)) (wSeq (wIfM (mCmp (eqD 59 true) (mMeth0 C_Reader 1 "sign_here" sp_Reader_sign_here) (wC (.str ""))) (wRaise XE C_NoWriting (wFstr (wFld C_Reader 1 "place"))) wNext) (wRetV 2))))
set_option maxHeartbeats 4000000 in
theorem ok_read {C_Reader : Addr} (Z_Reader : Cl_Reader K mg C_Reader) {C_NoWriting : Addr} (O_NoWriting : OwnCls "NoWriting" C_NoWriting mroV "ValueError.__new__" mg base) {k : Nat} {f : Addr} {fd : FuncData} {sp : DSpX} {l_Reader___init__ : Nat} {a_Reader___init__ : Addr} {fd_Reader___init__ : FuncData} {sp_Reader___init__ : MSp} {l_Reader_read_shape : Nat} {a_Reader_read_shape : Addr} {fd_Reader_read_shape : FuncData} {sp_Reader_read_shape : MSpX} {l_Reader_sign_here : Nat} {a_Reader_sign_here : Addr} {fd_Reader_sign_here : FuncData} {sp_Reader_sign_here : MSp} (D_Reader___init__ : DfM K "__init__" "Reader.__init__" (inClass (top 15) 0) ["self", "text"] a_Reader___init__ fd_Reader___init__) (M_Reader___init__ : Mk K C_Reader a_Reader___init__) (G_Reader___init__ : FnM P w K mg base l_Reader___init__ a_Reader___init__ fd_Reader___init__ ["self", "text"] C_Reader 1 sp_Reader___init__) (h_Reader___init__ : l_Reader___init__ + 1 ≤ k) (D_Reader_read_shape : DfM K "read_shape" "Reader.read_shape" (inClass (top 15) 3) ["self"] a_Reader_read_shape fd_Reader_read_shape) (M_Reader_read_shape : Meth K C_Reader "read_shape" a_Reader_read_shape) (G_Reader_read_shape : FnMX P w K mg base l_Reader_read_shape a_Reader_read_shape fd_Reader_read_shape ["self"] C_Reader 0 sp_Reader_read_shape) (h_Reader_read_shape : l_Reader_read_shape ≤ k) (D_Reader_sign_here : DfM K "sign_here" "Reader.sign_here" (inClass (top 15) 1) ["self"] a_Reader_sign_here fd_Reader_sign_here) (M_Reader_sign_here : Meth K C_Reader "sign_here" a_Reader_sign_here) (G_Reader_sign_here : FnM P w K mg base l_Reader_sign_here a_Reader_sign_here fd_Reader_sign_here ["self"] C_Reader 0 sp_Reader_sign_here) (h_Reader_sign_here : l_Reader_sign_here ≤ k) (T : Txt K mg w) (D : Df K mg "read" st_read ["text"] f fd)
    (hw : ∀ rs o, rs.length = 1 → sp rs o → w_read C_Reader C_NoWriting sp_Reader___init__ sp_Reader_read_shape sp_Reader_sign_here (XEof o) (EndsO o) (startD N_read rs)) : FnX P w K mg base (k + 1) f fd ["text"] sp := by
  refine Fun.okX D.F sc_read (ws := w_read C_Reader C_NoWriting sp_Reader___init__ sp_Reader_read_shape sp_Reader_sign_here) (fun cdv A outer s H E XE hr => ?_) hw
  have nd := sc_read.nd
  exact (DSs.cons (DS.make (i := 1) M_Reader___init__ G_Reader___init__ (hr.mono h_Reader___init__) rfl Z_Reader.m D_Reader___init__.b (DA.cons (DE.var (pv 0)) DA.nil) nd rfl (by first | exact Or.inl rfl | exact Or.inr rfl)) (DSs.cons (DS.setM (i := 2) (DM.meth0X (pv 1) Z_Reader.cl M_Reader_read_shape G_Reader_read_shape (hr.mono h_Reader_read_shape) D_Reader_read_shape.b rfl) nd rfl (by first | exact Or.inl rfl | exact Or.inr rfl)) (DSs.cons (DS.ifeM (DMT.cmp (cd_neD (n := 59) (hu59 hr)) eqD_mono (DM.meth0 (pv 1) Z_Reader.cl M_Reader_sign_here G_Reader_sign_here (hr.mono h_Reader_sign_here) D_Reader_sign_here.b) DE.str (nomark _)) (DSs.one (DS.raise O_NoWriting rfl rfl rfl (DE.fstr (by decide) (DE.fld (pv 1) Z_Reader.cl Z_Reader.n_place)))) DSs.nil) (DSs.one (DS.retV (pv 2))))))
noncomputable abbrev st_written : Stmt := top 20
noncomputable abbrev N_written : List Str := ["shape", "pieces", "waiting", "part"]
theorem sc_written : FnScope ["shape", "pieces", "waiting", "part"] ["shape"] (defScope st_written) := ⟨rfl, rfl, rfl, by decide +kernel, rfl, by decide +kernel, by decide +kernel⟩
noncomputable def w_written  (sp_pieces_of : DSp) : WS := (wSeq (wSet 1 (wLst wNil)) (wSeq (wSet 2 (wLst (wCons (wFz (wV 0)) wNil))) (wSeq (wWhile (wTru (wV 2)) (wSeq (wPop 2 (gNm 3)) (wIfS (wTru (wIsi "str" (wV 3))) (wAppend 1 (wFz (wV 3))) (wExtend 2 (wRevL (wCall sp_pieces_of (wCons (wV 3) wNil))))))) (wRet (wJoin (wC (.str "")) (wV 1))))))
set_option maxHeartbeats 4000000 in
theorem ok_written {k : Nat} {f : Addr} {fd : FuncData} {sp : DSp} {l_pieces_of : Nat} {a_pieces_of : Addr} {fd_pieces_of : FuncData} {sp_pieces_of : DSp} (D_pieces_of : Df K mg "pieces_of" (top 21) ["shape"] a_pieces_of fd_pieces_of) (G_pieces_of : FnD P w K mg base l_pieces_of a_pieces_of fd_pieces_of ["shape"] sp_pieces_of) (h_pieces_of : l_pieces_of ≤ k) (T : Txt K mg w) (D : Df K mg "written" st_written ["shape"] f fd)
    (hw : ∀ rs r, rs.length = 1 → sp rs r → w_written  sp_pieces_of (Ends1 r) (startD N_written rs)) : FnD P w K mg base (k + 1) f fd ["shape"] sp := by
  refine D.ok sc_written (ws := w_written  sp_pieces_of) (fun cdv A outer s H E hr => ?_) hw
  have nd := sc_written.nd
  exact (DSs.cons (DS.set (i := 1) (DE.lst DA.nil) nd rfl (by first | exact Or.inl rfl | exact Or.inr rfl)) (DSs.cons (DS.set (i := 2) (DE.lst (DA.cons (DE.fz (DE.var (pv 0))) DA.nil)) nd rfl (by first | exact Or.inl rfl | exact Or.inr rfl)) (DSs.cons (DS.whl PassesOwn.never (DT.tru (DE.var (pv 2)) (fun _ => rfl)) (DSs.cons (DS.pop (pv 2) (DG.nm (i := 3) nd rfl (by first | exact Or.inl rfl | exact Or.inr rfl))) (DSs.one (DS.ife (DT.tru (DE.isi (DE.var (pv 3)) rfl T.m_isinstance bt_isinstance rfl T.m_str bt_str (kit_all _ (by decide))) (fun _ => rfl)) (DSs.one (DS.append (pv 1) (DE.fz (DE.var (pv 3))))) (DSs.one (DS.extend (pv 2) (DE.revL (DE.call G_pieces_of (hr.mono h_pieces_of) rfl D_pieces_of.m D_pieces_of.k D_pieces_of.b (DA.cons (DE.var (pv 3)) DA.nil))))))))) (DSs.one (DS.ret (DE.join DE.str (DE.var (pv 1))))))))
noncomputable abbrev st_pieces_of : Stmt := top 21
noncomputable abbrev N_pieces_of : List Str := ["shape", "word", "inner"]
theorem sc_pieces_of : FnScope ["shape", "word", "inner"] ["shape"] (defScope st_pieces_of) := ⟨rfl, rfl, rfl, by decide +kernel, rfl, by decide +kernel, by decide +kernel⟩
noncomputable def w_pieces_of  (sp_inner_shapes : DSp) : WS := (wSeq (wSet 1 (wOp ixD (wV 0) (wC (.int 0)))) (wSeq (wIfS (wOp (eqD 60 false) (wV 1) (wC (.str "none"))) (wRet (wLst (wCons (wFz (wC (.str "{}"))) wNil))) wNext) (wSeq (wIfS (wOp (eqD 60 false) (wV 1) (wC (.str "empty"))) (wRet (wLst (wCons (wFz (wC (.str "()"))) wNil))) wNext) (wSeq (wIfS (wOp (eqD 60 false) (wV 1) (wC (.str "signs"))) (wRet (wLst (wCons (wFz (wIf (wOp (eqD 60 false) (wCB lenD (wCons (wOp ixD (wV 0) (wC (.int 1))) wNil)) (wC (.int 1))) (wOp ixD (wV 0) (wC (.int 1))) (wOp addD (wOp addD (wC (.str "[")) (wOp ixD (wV 0) (wC (.int 1)))) (wC (.str "]"))))) wNil))) wNext) (wSeq (wSet 2 (wCall sp_inner_shapes (wCons (wV 0) wNil))) (wSeq (wIfS (wMinC aheadKV (wV 1)) (wRet (wLst (wCons (wFz (wDsub aheadKV (wV 1))) (wCons (wFz (wOp ixD (wV 2) (wC (.int 0)))) wNil)))) wNext) (wRet (wLst (wCons (wFz (wC (.str "("))) (wCons (wFz (wOp ixD (wV 2) (wC (.int 0)))) (wCons (wFz (wDsub betweenKV (wV 1))) (wCons (wFz (wOp ixD (wV 2) (wC (.int 1)))) (wCons (wFz (wC (.str ")"))) wNil)))))))))))))
set_option maxHeartbeats 4000000 in
theorem ok_pieces_of {k : Nat} {f : Addr} {fd : FuncData} {sp : DSp} {l_inner_shapes : Nat} {a_inner_shapes : Addr} {fd_inner_shapes : FuncData} {sp_inner_shapes : DSp} (D_inner_shapes : Df K mg "inner_shapes" (top 11) ["shape"] a_inner_shapes fd_inner_shapes) (G_inner_shapes : FnD P w K mg base l_inner_shapes a_inner_shapes fd_inner_shapes ["shape"] sp_inner_shapes) (h_inner_shapes : l_inner_shapes ≤ k) (T : Txt K mg w) (D : Df K mg "pieces_of" st_pieces_of ["shape"] f fd)
    (hw : ∀ rs r, rs.length = 1 → sp rs r → w_pieces_of  sp_inner_shapes (Ends1 r) (startD N_pieces_of rs)) : FnD P w K mg base (k + 1) f fd ["shape"] sp := by
  refine D.ok sc_pieces_of (ws := w_pieces_of  sp_inner_shapes) (fun cdv A outer s H E hr => ?_) hw
  have nd := sc_pieces_of.nd
  obtain ⟨da_AHEAD, md_AHEAD, mn_AHEAD⟩ := T.e_AHEAD
  obtain ⟨da_BETWEEN, md_BETWEEN, mn_BETWEEN⟩ := T.e_BETWEEN
  exact (DSs.cons (DS.set (i := 1) (DE.ix (DE.var (pv 0)) DE.int (fun _ _ => rfl)) nd rfl (by first | exact Or.inl rfl | exact Or.inr rfl)) (DSs.cons (DS.ife (DT.cmp (cd_eq (n := 60) (hu60 hr)) eqD_mono (DE.var (pv 1)) DE.str (nomark _)) (DSs.one (DS.ret (DE.lst (DA.cons (DE.fz DE.str) DA.nil)))) DSs.nil) (DSs.cons (DS.ife (DT.cmp (cd_eq (n := 60) (hu60 hr)) eqD_mono (DE.var (pv 1)) DE.str (nomark _)) (DSs.one (DS.ret (DE.lst (DA.cons (DE.fz DE.str) DA.nil)))) DSs.nil) (DSs.cons (DS.ife (DT.cmp (cd_eq (n := 60) (hu60 hr)) eqD_mono (DE.var (pv 1)) DE.str (nomark _)) (DSs.one (DS.ret (DE.lst (DA.cons (DE.fz (DE.ife (DT.cmp (cd_eq (n := 60) (hu60 hr)) eqD_mono (DE.callB call_lenR lenD_mono rfl T.m_len bt_len (DA.cons (DE.ix (DE.var (pv 0)) DE.int (fun _ _ => rfl)) DA.nil)) DE.int (nomark _)) (DE.ix (DE.var (pv 0)) DE.int (fun _ _ => rfl)) (DE.op od_add addD_mono (DE.op od_add addD_mono DE.str (DE.ix (DE.var (pv 0)) DE.int (fun _ _ => rfl))) DE.str))) DA.nil)))) DSs.nil) (DSs.cons (DS.set (i := 2) (DE.call G_inner_shapes (hr.mono h_inner_shapes) rfl D_inner_shapes.m D_inner_shapes.k D_inner_shapes.b (DA.cons (DE.var (pv 0)) DA.nil)) nd rfl (by first | exact Or.inl rfl | exact Or.inr rfl)) (DSs.cons (DS.ife (DT.minC md_AHEAD rfl mn_AHEAD (DE.var (pv 1))) (DSs.one (DS.ret (DE.lst (DA.cons (DE.fz (DE.mgetC md_AHEAD rfl mn_AHEAD (DE.var (pv 1)) (fun _ _ => rfl))) (DA.cons (DE.fz (DE.ix (DE.var (pv 2)) DE.int (fun _ _ => rfl))) DA.nil))))) DSs.nil) (DSs.one (DS.ret (DE.lst (DA.cons (DE.fz DE.str) (DA.cons (DE.fz (DE.ix (DE.var (pv 2)) DE.int (fun _ _ => rfl))) (DA.cons (DE.fz (DE.mgetC md_BETWEEN rfl mn_BETWEEN (DE.var (pv 1)) (fun _ _ => rfl))) (DA.cons (DE.fz (DE.ix (DE.var (pv 2)) DE.int (fun _ _ => rfl))) (DA.cons (DE.fz DE.str) DA.nil))))))))))))))
noncomputable abbrev st_law_cell : Stmt := top 23
noncomputable abbrev N_law_cell : List Str := ["_law_script", "_law_k"]
theorem sc_law_cell : FnScope ["_law_script", "_law_k"] ["_law_script", "_law_k"] (defScope st_law_cell) := ⟨rfl, rfl, rfl, by decide +kernel, rfl, by decide +kernel, by decide +kernel⟩
noncomputable def w_law_cell   : WS := (wSeq (wIfS (wOp (eqD 60 false) (wV 0) (wLst wNil)) (wRet (wOp mulD (wC (.int 7)) (wV 1))) wNext) (wRet (wOp addD (wOp ixD (wV 0) (wOp (intD (fun _ j => 0 < j) fun i j => i % j) (wV 1) (wCB lenD (wCons (wV 0) wNil)))) (wOp mulD (wC (.int 6553)) (wOp (intD CDiv fun i j => i / j) (wV 1) (wCB lenD (wCons (wV 0) wNil)))))))
set_option maxHeartbeats 4000000 in
theorem ok_law_cell {k : Nat} {f : Addr} {fd : FuncData} {sp : DSp} (T : Txt K mg w) (D : Df K mg "_law_cell" st_law_cell ["_law_script", "_law_k"] f fd)
    (hw : ∀ rs r, rs.length = 2 → sp rs r → w_law_cell   (Ends1 r) (startD N_law_cell rs)) : FnD P w K mg base (k + 1) f fd ["_law_script", "_law_k"] sp := by
  refine D.ok sc_law_cell (ws := w_law_cell  ) (fun cdv A outer s H E hr => ?_) hw
  have nd := sc_law_cell.nd
  exact (DSs.cons (DS.ife (DT.cmp (cd_eq (n := 60) (hu60 hr)) eqD_mono (DE.var (pv 0)) (DE.lst DA.nil) (nomark _)) (DSs.one (DS.ret (DE.op od_mul mulD_mono DE.int (DE.var (pv 1))))) DSs.nil) (DSs.one (DS.ret (DE.op od_add addD_mono (DE.ix (DE.var (pv 0)) (DE.op od_mod intD_mono (DE.var (pv 1)) (DE.callB call_lenR lenD_mono rfl T.m_len bt_len (DA.cons (DE.var (pv 0)) DA.nil))) (fun _ _ => rfl)) (DE.op od_mul mulD_mono DE.int (DE.op od_fdiv intD_mono (DE.var (pv 1)) (DE.callB call_lenR lenD_mono rfl T.m_len bt_len (DA.cons (DE.var (pv 0)) DA.nil))))))))
noncomputable abbrev st_law_drawn : Stmt := top 24
noncomputable abbrev N_law_drawn : List Str := ["_law_script", "_law_k", "_law_many", "_law_cell_here"]
theorem sc_law_drawn : FnScope ["_law_script", "_law_k", "_law_many", "_law_cell_here"] ["_law_script", "_law_k", "_law_many"] (defScope st_law_drawn) := ⟨rfl, rfl, rfl, by decide +kernel, rfl, by decide +kernel, by decide +kernel⟩
noncomputable def w_law_drawn  (sp_law_cell : DSp) : WS := (wSeq (wSet 3 (wOp (intD (fun _ j => 0 < j) fun i j => i % j) (wOp addD (wOp mulD (wOp (intD (fun _ j => 0 < j) fun i j => i % j) (wCall sp_law_cell (wCons (wV 0) (wCons (wV 1) wNil))) (wC (.int 2147483563))) (wC (.int 69069))) (wOp mulD (wC (.int 104723)) (wOp addD (wV 1) (wC (.int 1))))) (wC (.int 2147483563)))) (wSeq (wSet 3 (wOp (intD (fun _ j => 0 < j) fun i j => i % j) (wOp addD (wOp mulD (wV 3) (wV 3)) (wOp (intD CDiv fun i j => i / j) (wV 3) (wC (.int 3)))) (wC (.int 2147483399)))) (wRet (wOp (intD (fun _ j => 0 < j) fun i j => i % j) (wOp (intD CDiv fun i j => i / j) (wOp (intD (fun _ j => 0 < j) fun i j => i % j) (wOp addD (wOp mulD (wV 3) (wV 3)) (wOp (intD CDiv fun i j => i / j) (wV 3) (wC (.int 7)))) (wC (.int 2147483647))) (wC (.int 11))) (wV 2)))))
set_option maxHeartbeats 4000000 in
theorem ok_law_drawn {k : Nat} {f : Addr} {fd : FuncData} {sp : DSp} {l_law_cell : Nat} {a_law_cell : Addr} {fd_law_cell : FuncData} {sp_law_cell : DSp} (D_law_cell : Df K mg "_law_cell" (top 23) ["_law_script", "_law_k"] a_law_cell fd_law_cell) (G_law_cell : FnD P w K mg base l_law_cell a_law_cell fd_law_cell ["_law_script", "_law_k"] sp_law_cell) (h_law_cell : l_law_cell ≤ k) (T : Txt K mg w) (D : Df K mg "_law_drawn" st_law_drawn ["_law_script", "_law_k", "_law_many"] f fd)
    (hw : ∀ rs r, rs.length = 3 → sp rs r → w_law_drawn  sp_law_cell (Ends1 r) (startD N_law_drawn rs)) : FnD P w K mg base (k + 1) f fd ["_law_script", "_law_k", "_law_many"] sp := by
  refine D.ok sc_law_drawn (ws := w_law_drawn  sp_law_cell) (fun cdv A outer s H E hr => ?_) hw
  have nd := sc_law_drawn.nd
  exact (DSs.cons (DS.set (i := 3) (DE.op od_mod intD_mono (DE.op od_add addD_mono (DE.op od_mul mulD_mono (DE.op od_mod intD_mono (DE.call G_law_cell (hr.mono h_law_cell) rfl D_law_cell.m D_law_cell.k D_law_cell.b (DA.cons (DE.var (pv 0)) (DA.cons (DE.var (pv 1)) DA.nil))) DE.int) DE.int) (DE.op od_mul mulD_mono DE.int (DE.op od_add addD_mono (DE.var (pv 1)) DE.int))) DE.int) nd rfl (by first | exact Or.inl rfl | exact Or.inr rfl)) (DSs.cons (DS.set (i := 3) (DE.op od_mod intD_mono (DE.op od_add addD_mono (DE.op od_mul mulD_mono (DE.var (pv 3)) (DE.var (pv 3))) (DE.op od_fdiv intD_mono (DE.var (pv 3)) DE.int)) DE.int) nd rfl (by first | exact Or.inl rfl | exact Or.inr rfl)) (DSs.one (DS.ret (DE.op od_mod intD_mono (DE.op od_fdiv intD_mono (DE.op od_mod intD_mono (DE.op od_add addD_mono (DE.op od_mul mulD_mono (DE.var (pv 3)) (DE.var (pv 3))) (DE.op od_fdiv intD_mono (DE.var (pv 3)) DE.int)) DE.int) DE.int) (DE.var (pv 2)))))))
noncomputable abbrev st_law_shape : Stmt := top 27
noncomputable abbrev N_law_shape : List Str := ["_law_script", "_law_at_here", "_law_deep", "_law_way", "_law_some", "_law_leaf", "_law_one"]
theorem sc_law_shape : FnScope ["_law_script", "_law_at_here", "_law_deep", "_law_way", "_law_some", "_law_leaf", "_law_one"] ["_law_script", "_law_at_here", "_law_deep"] (defScope st_law_shape) := ⟨rfl, rfl, rfl, by decide +kernel, rfl, by decide +kernel, by decide +kernel⟩
noncomputable def w_law_shape  (sp_law_drawn : DSp) (sp_law_shape : DSp) : WS := (wSeq (wSet 3 (wCall sp_law_drawn (wCons (wV 0) (wCons (wV 1) (wCons (wC (.int 9)) wNil))))) (wSeq (wIfS (wOr (wOp (eqD 60 false) (wV 2) (wC (.int 0))) (wOp (cmpI fun i j => decide (i < j)) (wV 3) (wC (.int 2)))) (wSeq (wSet 4 (wJoin (wC (.str "")) (wComp 2 [0, 1] (jEnum (wCons (wC (.str "01ab")) wNil)) (gTp 2 (gCn (gNm 0) (gCn (gNm 1) gNl))) (wOp (eqD 60 false) (wCall sp_law_drawn (wCons (wV 2) (wCons (wOp addD (wOp addD (wV 3) (wC (.int 1))) (wV 0)) (wCons (wC (.int 2)) wNil)))) (wC (.int 0))) (wFz (wV 1))))) (wSeq (wSet 5 (wTup (wCons (wFz (wC (.str "signs"))) (wCons (wFz (wV 4)) wNil)))) (wSeq (wIfS (wOp (eqD 60 false) (wV 4) (wC (.str ""))) (wSet 5 (wOp ixD (wLst (wCons (wFz (wTup (wCons (wFz (wC (.str "none"))) wNil))) (wCons (wFz (wTup (wCons (wFz (wC (.str "empty"))) wNil))) (wCons (wFz (wTup (wCons (wFz (wC (.str "signs"))) (wCons (wFz (wC (.str "a"))) wNil)))) (wCons (wFz (wTup (wCons (wFz (wC (.str "empty"))) wNil))) wNil))))) (wCall sp_law_drawn (wCons (wV 0) (wCons (wOp addD (wV 1) (wC (.int 5))) (wCons (wC (.int 4)) wNil)))))) wNext) (wRetV 5)))) wNext) (wSeq (wSet 6 (wCall sp_law_shape (wCons (wV 0) (wCons (wOp addD (wOp mulD (wV 1) (wC (.int 2))) (wC (.int 11))) (wCons (wOp (intD NoC fun i j => i - j) (wV 2) (wC (.int 1))) wNil))))) (wSeq (wIfS (wOp (cmpI fun i j => decide (i < j)) (wV 3) (wC (.int 4))) (wRet (wTup (wCons (wFz (wOp ixD (wLst (wCons (wFz (wC (.str "not"))) (wCons (wFz (wC (.str "many"))) wNil))) (wOp (intD NoC fun i j => i - j) (wV 3) (wC (.int 2))))) (wCons (wFz (wV 6)) wNil)))) wNext) (wRet (wTup (wCons (wFz (wOp ixD (wLst (wCons (wFz (wC (.str "then"))) (wCons (wFz (wC (.str "or"))) (wCons (wFz (wC (.str "and"))) (wCons (wFz (wC (.str "then"))) (wCons (wFz (wC (.str "or"))) wNil)))))) (wOp (intD NoC fun i j => i - j) (wV 3) (wC (.int 4))))) (wCons (wFz (wV 6)) (wCons (wFz (wCall sp_law_shape (wCons (wV 0) (wCons (wOp addD (wOp mulD (wV 1) (wC (.int 2))) (wC (.int 31))) (wCons (wOp (intD NoC fun i j => i - j) (wV 2) (wC (.int 1))) wNil))))) wNil)))))))))
set_option maxHeartbeats 4000000 in
theorem ok_law_shape {k : Nat} {f : Addr} {fd : FuncData} {sp : DSp} {l_law_drawn : Nat} {a_law_drawn : Addr} {fd_law_drawn : FuncData} {sp_law_drawn : DSp} {l_law_shape : Nat} {a_law_shape : Addr} {fd_law_shape : FuncData} {sp_law_shape : DSp} (D_law_drawn : Df K mg "_law_drawn" (top 24) ["_law_script", "_law_k", "_law_many"] a_law_drawn fd_law_drawn) (G_law_drawn : FnD P w K mg base l_law_drawn a_law_drawn fd_law_drawn ["_law_script", "_law_k", "_law_many"] sp_law_drawn) (h_law_drawn : l_law_drawn ≤ k) (D_law_shape : Df K mg "_law_shape" (top 27) ["_law_script", "_law_at_here", "_law_deep"] a_law_shape fd_law_shape) (G_law_shape : FnD P w K mg base l_law_shape a_law_shape fd_law_shape ["_law_script", "_law_at_here", "_law_deep"] sp_law_shape) (h_law_shape : l_law_shape ≤ k) (T : Txt K mg w) (D : Df K mg "_law_shape" st_law_shape ["_law_script", "_law_at_here", "_law_deep"] f fd)
    (hw : ∀ rs r, rs.length = 3 → sp rs r → w_law_shape  sp_law_drawn sp_law_shape (Ends1 r) (startD N_law_shape rs)) : FnD P w K mg base (k + 1) f fd ["_law_script", "_law_at_here", "_law_deep"] sp := by
  refine D.ok sc_law_shape (ws := w_law_shape  sp_law_drawn sp_law_shape) (fun cdv A outer s H E hr => ?_) hw
  have nd := sc_law_shape.nd
  exact (DSs.cons (DS.set (i := 3) (DE.call G_law_drawn (hr.mono h_law_drawn) rfl D_law_drawn.m D_law_drawn.k D_law_drawn.b (DA.cons (DE.var (pv 0)) (DA.cons (DE.var (pv 1)) (DA.cons DE.int DA.nil)))) nd rfl (by first | exact Or.inl rfl | exact Or.inr rfl)) (DSs.cons (DS.ife (DW.t (DW.or (DT.cmp (cd_eq (n := 60) (hu60 hr)) eqD_mono (DE.var (pv 2)) DE.int (nomark _)) (DW.or1 (DT.cmp cd_lt cmpI_mono (DE.var (pv 3)) DE.int (nomark _))))) (DSs.cons (DS.set (i := 4) (DE.join DE.str (DE.comp rfl (blk_of (sc := defScope st_law_shape) (N0 := ["_law_script", "_law_at_here", "_law_deep", "_law_way", "_law_some", "_law_leaf", "_law_one"]) (N := ["_law_k", "_law_sign", "_law_script", "_law_at_here"]) (nt := 2) (cap := [0, 1]) rfl rfl (by decide +kernel)) (DIE.enumS rfl T.m_enumerate bt_enumerate (DA.cons DE.str DA.nil)) (fun _ _ _ _ => (DG.tp (n := 2) rfl (DGs.cons (DG.nm (i := 0) (show List.Nodup (["_law_k", "_law_sign", "_law_script", "_law_at_here"] : List Str) by decide +kernel) rfl (by first | exact Or.inl rfl | exact Or.inr rfl)) (DGs.cons (DG.nm (i := 1) (show List.Nodup (["_law_k", "_law_sign", "_law_script", "_law_at_here"] : List Str) by decide +kernel) rfl (by first | exact Or.inl rfl | exact Or.inr rfl)) DGs.nil)))) (fun _ _ _ _ => (DIf.one (DT.cmp (cd_eq (n := 60) (hu60 hr)) eqD_mono (DE.call G_law_drawn (hr.mono h_law_drawn) rfl D_law_drawn.m D_law_drawn.k D_law_drawn.b (DA.cons (DE.var (pv 2)) (DA.cons (DE.op od_add addD_mono (DE.op od_add addD_mono (DE.var (pv 3)) DE.int) (DE.var (pv 0))) (DA.cons DE.int DA.nil)))) DE.int (nomark _)))) (fun _ _ _ _ => (DE.fz (DE.var (pv 1)))))) nd rfl (by first | exact Or.inl rfl | exact Or.inr rfl)) (DSs.cons (DS.set (i := 5) (DE.tup (DA.cons (DE.fz DE.str) (DA.cons (DE.fz (DE.var (pv 4))) DA.nil))) nd rfl (by first | exact Or.inl rfl | exact Or.inr rfl)) (DSs.cons (DS.ife (DT.cmp (cd_eq (n := 60) (hu60 hr)) eqD_mono (DE.var (pv 4)) DE.str (nomark _)) (DSs.one (DS.set (i := 5) (DE.ix (DE.lst (DA.cons (DE.fz (DE.tup (DA.cons (DE.fz DE.str) DA.nil))) (DA.cons (DE.fz (DE.tup (DA.cons (DE.fz DE.str) DA.nil))) (DA.cons (DE.fz (DE.tup (DA.cons (DE.fz DE.str) (DA.cons (DE.fz DE.str) DA.nil)))) (DA.cons (DE.fz (DE.tup (DA.cons (DE.fz DE.str) DA.nil))) DA.nil))))) (DE.call G_law_drawn (hr.mono h_law_drawn) rfl D_law_drawn.m D_law_drawn.k D_law_drawn.b (DA.cons (DE.var (pv 0)) (DA.cons (DE.op od_add addD_mono (DE.var (pv 1)) DE.int) (DA.cons DE.int DA.nil)))) (fun _ _ => rfl)) nd rfl (by first | exact Or.inl rfl | exact Or.inr rfl))) DSs.nil) (DSs.one (DS.retV (pv 5)))))) DSs.nil) (DSs.cons (DS.set (i := 6) (DE.call G_law_shape (hr.mono h_law_shape) rfl D_law_shape.m D_law_shape.k D_law_shape.b (DA.cons (DE.var (pv 0)) (DA.cons (DE.op od_add addD_mono (DE.op od_mul mulD_mono (DE.var (pv 1)) DE.int) DE.int) (DA.cons (DE.op od_sub intD_mono (DE.var (pv 2)) DE.int) DA.nil)))) nd rfl (by first | exact Or.inl rfl | exact Or.inr rfl)) (DSs.cons (DS.ife (DT.cmp cd_lt cmpI_mono (DE.var (pv 3)) DE.int (nomark _)) (DSs.one (DS.ret (DE.tup (DA.cons (DE.fz (DE.ix (DE.lst (DA.cons (DE.fz DE.str) (DA.cons (DE.fz DE.str) DA.nil))) (DE.op od_sub intD_mono (DE.var (pv 3)) DE.int) (fun _ _ => rfl))) (DA.cons (DE.fz (DE.var (pv 6))) DA.nil))))) DSs.nil) (DSs.one (DS.ret (DE.tup (DA.cons (DE.fz (DE.ix (DE.lst (DA.cons (DE.fz DE.str) (DA.cons (DE.fz DE.str) (DA.cons (DE.fz DE.str) (DA.cons (DE.fz DE.str) (DA.cons (DE.fz DE.str) DA.nil)))))) (DE.op od_sub intD_mono (DE.var (pv 3)) DE.int) (fun _ _ => rfl))) (DA.cons (DE.fz (DE.var (pv 6))) (DA.cons (DE.fz (DE.call G_law_shape (hr.mono h_law_shape) rfl D_law_shape.m D_law_shape.k D_law_shape.b (DA.cons (DE.var (pv 0)) (DA.cons (DE.op od_add addD_mono (DE.op od_mul mulD_mono (DE.var (pv 1)) DE.int) DE.int) (DA.cons (DE.op od_sub intD_mono (DE.var (pv 2)) DE.int) DA.nil))))) DA.nil))))))))))
noncomputable abbrev st_law_at : Stmt := top 28
noncomputable abbrev N_law_at : List Str := ["_law_text_here", "_law_place", "_law_sign", "_law_signs", "_law_one", "_law_word", "_law_other"]
theorem sc_law_at : FnScope ["_law_text_here", "_law_place", "_law_sign", "_law_signs", "_law_one", "_law_word", "_law_other"] ["_law_text_here", "_law_place"] (defScope st_law_at) := ⟨rfl, rfl, rfl, by decide +kernel, rfl, by decide +kernel, by decide +kernel⟩
noncomputable def w_law_at  (sp_law_at : DSp) : WS := (wSeq (wSet 2 (wSl (wV 0) (oSome (wV 1)) (oSome (wOp addD (wV 1) (wC (.int 1)))))) (wSeq (wIfS (wAnd (wOp neD (wV 2) (wC (.str ""))) (wOp (inD false) (wV 2) (wC (.str "01ab")))) (wRet (wTup (wCons (wFz (wTup (wCons (wFz (wC (.str "signs"))) (wCons (wFz (wV 2)) wNil)))) (wCons (wFz (wC (.int 1))) (wCons (wFz (wOp addD (wV 1) (wC (.int 1)))) wNil))))) wNext) (wSeq (wIfS (wOp (eqD 60 false) (wSl (wV 0) (oSome (wV 1)) (oSome (wOp addD (wV 1) (wC (.int 2))))) (wOp addD (wC (.str "{")) (wC (.str "}")))) (wRet (wTup (wCons (wFz (wTup (wCons (wFz (wC (.str "none"))) wNil))) (wCons (wFz (wC (.int 1))) (wCons (wFz (wOp addD (wV 1) (wC (.int 2)))) wNil))))) wNext) (wSeq (wIfS (wOp (eqD 60 false) (wSl (wV 0) (oSome (wV 1)) (oSome (wOp addD (wV 1) (wC (.int 2))))) (wC (.str "()"))) (wRet (wTup (wCons (wFz (wTup (wCons (wFz (wC (.str "empty"))) wNil))) (wCons (wFz (wC (.int 1))) (wCons (wFz (wOp addD (wV 1) (wC (.int 2)))) wNil))))) wNext) (wSeq (wIfS (wOp (eqD 60 false) (wV 2) (wC (.str "["))) (wSeq (wFor (iTup (wTup (wCons (wFz (wC (.str "01"))) (wCons (wFz (wC (.str "0a"))) (wCons (wFz (wC (.str "0b"))) (wCons (wFz (wC (.str "1a"))) (wCons (wFz (wC (.str "1b"))) (wCons (wFz (wC (.str "ab"))) (wCons (wFz (wC (.str "01a"))) (wCons (wFz (wC (.str "01b"))) (wCons (wFz (wC (.str "0ab"))) (wCons (wFz (wC (.str "1ab"))) (wCons (wFz (wC (.str "01ab"))) wNil))))))))))))) (gNm 3) (wIfS (wOp (eqD 60 false) (wSl (wV 0) (oSome (wV 1)) (oSome (wOp addD (wOp addD (wV 1) (wCB lenD (wCons (wV 3) wNil))) (wC (.int 2))))) (wOp addD (wOp addD (wC (.str "[")) (wV 3)) (wC (.str "]")))) (wRet (wTup (wCons (wFz (wTup (wCons (wFz (wC (.str "signs"))) (wCons (wFz (wV 3)) wNil)))) (wCons (wFz (wC (.int 1))) (wCons (wFz (wOp addD (wOp addD (wV 1) (wCB lenD (wCons (wV 3) wNil))) (wC (.int 2)))) wNil))))) wNext)) (wRet (wC .non))) wNext) (wSeq (wIfS (wOp (inF false) (wV 2) (wTup (wCons (wFz (wC (.str "!"))) (wCons (wFz (wC (.str "*"))) (wCons (wFz (wC (.str "("))) wNil))))) (wSeq (wSet 4 (wCall sp_law_at (wCons (wV 0) (wCons (wOp addD (wV 1) (wC (.int 1))) wNil)))) (wSeq (wIfS (wOp (isND false) (wV 4) (wC .non)) (wRet (wC .non)) wNext) (wSeq (wIfS (wOp neD (wV 2) (wC (.str "("))) (wRet (wTup (wCons (wFz (wTup (wCons (wFz (wDsub [("!", Sum.inr "not"), ("*", Sum.inr "many")] (wV 2))) (wCons (wFz (wOp ixD (wV 4) (wC (.int 0)))) wNil)))) (wCons (wFz (wOp addD (wOp ixD (wV 4) (wC (.int 1))) (wC (.int 1)))) (wCons (wFz (wOp ixD (wV 4) (wC (.int 2)))) wNil))))) wNext) (wSeq (wSet 5 (wDget1 [(" ", Sum.inr "then"), ("|", Sum.inr "or"), ("&", Sum.inr "and")] (wSl (wV 0) (oSome (wOp ixD (wV 4) (wC (.int 2)))) (oSome (wOp addD (wOp ixD (wV 4) (wC (.int 2))) (wC (.int 1))))))) (wSeq (wSet 6 (wIf (wOp (isND false) (wV 5) (wC .non)) (wC .non) (wCall sp_law_at (wCons (wV 0) (wCons (wOp addD (wOp ixD (wV 4) (wC (.int 2))) (wC (.int 1))) wNil))))) (wSeq (wIfS (wOr (wOp (isND false) (wV 6) (wC .non)) (wOp neD (wSl (wV 0) (oSome (wOp ixD (wV 6) (wC (.int 2)))) (oSome (wOp addD (wOp ixD (wV 6) (wC (.int 2))) (wC (.int 1))))) (wC (.str ")")))) (wRet (wC .non)) wNext) (wRet (wTup (wCons (wFz (wTup (wCons (wFz (wV 5)) (wCons (wFz (wOp ixD (wV 4) (wC (.int 0)))) (wCons (wFz (wOp ixD (wV 6) (wC (.int 0)))) wNil))))) (wCons (wFz (wOp addD (wOp addD (wOp ixD (wV 4) (wC (.int 1))) (wOp ixD (wV 6) (wC (.int 1)))) (wC (.int 1)))) (wCons (wFz (wOp addD (wOp ixD (wV 6) (wC (.int 2))) (wC (.int 1)))) wNil))))))))))) wNext) (wRet (wC .non))))))))
set_option maxHeartbeats 4000000 in
theorem ok_law_at {k : Nat} {f : Addr} {fd : FuncData} {sp : DSp} {l_law_at : Nat} {a_law_at : Addr} {fd_law_at : FuncData} {sp_law_at : DSp} (D_law_at : Df K mg "_law_at" (top 28) ["_law_text_here", "_law_place"] a_law_at fd_law_at) (G_law_at : FnD P w K mg base l_law_at a_law_at fd_law_at ["_law_text_here", "_law_place"] sp_law_at) (h_law_at : l_law_at ≤ k) (T : Txt K mg w) (D : Df K mg "_law_at" st_law_at ["_law_text_here", "_law_place"] f fd)
    (hw : ∀ rs r, rs.length = 2 → sp rs r → w_law_at  sp_law_at (Ends1 r) (startD N_law_at rs)) : FnD P w K mg base (k + 1) f fd ["_law_text_here", "_law_place"] sp := by
  refine D.ok sc_law_at (ws := w_law_at  sp_law_at) (fun cdv A outer s H E hr => ?_) hw
  have nd := sc_law_at.nd
  exact (DSs.cons (DS.set (i := 2) (DE.slice (DE.var (pv 0)) (DO.some (DE.var (pv 1))) (DO.some (DE.op od_add addD_mono (DE.var (pv 1)) DE.int))) nd rfl (by first | exact Or.inl rfl | exact Or.inr rfl)) (DSs.cons (DS.ife (DW.t (DW.and (DT.cmp cd_ne neD_mono (DE.var (pv 2)) DE.str (nomark _)) (DW.and1 (DT.cmp cd_in inD_mono (DE.var (pv 2)) DE.str (by with_unfolding_all rfl))))) (DSs.one (DS.ret (DE.tup (DA.cons (DE.fz (DE.tup (DA.cons (DE.fz DE.str) (DA.cons (DE.fz (DE.var (pv 2))) DA.nil)))) (DA.cons (DE.fz DE.int) (DA.cons (DE.fz (DE.op od_add addD_mono (DE.var (pv 1)) DE.int)) DA.nil)))))) DSs.nil) (DSs.cons (DS.ife (DT.cmp (cd_eq (n := 60) (hu60 hr)) eqD_mono (DE.slice (DE.var (pv 0)) (DO.some (DE.var (pv 1))) (DO.some (DE.op od_add addD_mono (DE.var (pv 1)) DE.int))) (DE.op od_add addD_mono DE.str DE.str) (nomark _)) (DSs.one (DS.ret (DE.tup (DA.cons (DE.fz (DE.tup (DA.cons (DE.fz DE.str) DA.nil))) (DA.cons (DE.fz DE.int) (DA.cons (DE.fz (DE.op od_add addD_mono (DE.var (pv 1)) DE.int)) DA.nil)))))) DSs.nil) (DSs.cons (DS.ife (DT.cmp (cd_eq (n := 60) (hu60 hr)) eqD_mono (DE.slice (DE.var (pv 0)) (DO.some (DE.var (pv 1))) (DO.some (DE.op od_add addD_mono (DE.var (pv 1)) DE.int))) DE.str (nomark _)) (DSs.one (DS.ret (DE.tup (DA.cons (DE.fz (DE.tup (DA.cons (DE.fz DE.str) DA.nil))) (DA.cons (DE.fz DE.int) (DA.cons (DE.fz (DE.op od_add addD_mono (DE.var (pv 1)) DE.int)) DA.nil)))))) DSs.nil) (DSs.cons (DS.ife (DT.cmp (cd_eq (n := 60) (hu60 hr)) eqD_mono (DE.var (pv 2)) DE.str (nomark _)) (DSs.cons (DS.for PassesOwn.never rfl (DI.tup (DE.tup (DA.cons (DE.fz DE.str) (DA.cons (DE.fz DE.str) (DA.cons (DE.fz DE.str) (DA.cons (DE.fz DE.str) (DA.cons (DE.fz DE.str) (DA.cons (DE.fz DE.str) (DA.cons (DE.fz DE.str) (DA.cons (DE.fz DE.str) (DA.cons (DE.fz DE.str) (DA.cons (DE.fz DE.str) (DA.cons (DE.fz DE.str) DA.nil))))))))))))) (DG.nm (i := 3) nd rfl (by first | exact Or.inl rfl | exact Or.inr rfl)) (DSs.one (DS.ife (DT.cmp (cd_eq (n := 60) (hu60 hr)) eqD_mono (DE.slice (DE.var (pv 0)) (DO.some (DE.var (pv 1))) (DO.some (DE.op od_add addD_mono (DE.op od_add addD_mono (DE.var (pv 1)) (DE.callB call_lenR lenD_mono rfl T.m_len bt_len (DA.cons (DE.var (pv 3)) DA.nil))) DE.int))) (DE.op od_add addD_mono (DE.op od_add addD_mono DE.str (DE.var (pv 3))) DE.str) (nomark _)) (DSs.one (DS.ret (DE.tup (DA.cons (DE.fz (DE.tup (DA.cons (DE.fz DE.str) (DA.cons (DE.fz (DE.var (pv 3))) DA.nil)))) (DA.cons (DE.fz DE.int) (DA.cons (DE.fz (DE.op od_add addD_mono (DE.op od_add addD_mono (DE.var (pv 1)) (DE.callB call_lenR lenD_mono rfl T.m_len bt_len (DA.cons (DE.var (pv 3)) DA.nil))) DE.int)) DA.nil)))))) DSs.nil))) (DSs.one (DS.ret DE.non))) DSs.nil) (DSs.cons (DS.ife (DT.cmp cd_inF inF_mono (DE.var (pv 2)) (DE.tup (DA.cons (DE.fz DE.str) (DA.cons (DE.fz DE.str) (DA.cons (DE.fz DE.str) DA.nil)))) (by with_unfolding_all rfl)) (DSs.cons (DS.set (i := 4) (DE.call G_law_at (hr.mono h_law_at) rfl D_law_at.m D_law_at.k D_law_at.b (DA.cons (DE.var (pv 0)) (DA.cons (DE.op od_add addD_mono (DE.var (pv 1)) DE.int) DA.nil))) nd rfl (by first | exact Or.inl rfl | exact Or.inr rfl)) (DSs.cons (DS.ife (DT.cmp cd_isN isND_mono (DE.var (pv 4)) DE.non (nomark _)) (DSs.one (DS.ret DE.non)) DSs.nil) (DSs.cons (DS.ife (DT.cmp cd_ne neD_mono (DE.var (pv 2)) DE.str (nomark _)) (DSs.one (DS.ret (DE.tup (DA.cons (DE.fz (DE.tup (DA.cons (DE.fz (DE.dsub (kvs := [("!", Sum.inr "not"), ("*", Sum.inr "many")]) (hu_of hr) (DispC.str (DispC.str DispC.nil)) (by simp) (by decide) (by decide) (by decide +kernel) (DE.var (pv 2)) (fun _ _ => rfl))) (DA.cons (DE.fz (DE.ix (DE.var (pv 4)) DE.int (fun _ _ => rfl))) DA.nil)))) (DA.cons (DE.fz (DE.op od_add addD_mono (DE.ix (DE.var (pv 4)) DE.int (fun _ _ => rfl)) DE.int)) (DA.cons (DE.fz (DE.ix (DE.var (pv 4)) DE.int (fun _ _ => rfl))) DA.nil)))))) DSs.nil) (DSs.cons (DS.set (i := 5) (DE.dget1 (kvs := [(" ", Sum.inr "then"), ("|", Sum.inr "or"), ("&", Sum.inr "and")]) (hu_of hr) (DispC.str (DispC.str (DispC.str DispC.nil))) (by simp) (by decide) (by decide) (by decide +kernel) (DE.slice (DE.var (pv 0)) (DO.some (DE.ix (DE.var (pv 4)) DE.int (fun _ _ => rfl))) (DO.some (DE.op od_add addD_mono (DE.ix (DE.var (pv 4)) DE.int (fun _ _ => rfl)) DE.int))) ⟨rfl, rfl, rfl, rfl⟩) nd rfl (by first | exact Or.inl rfl | exact Or.inr rfl)) (DSs.cons (DS.set (i := 6) (DE.ife (DT.cmp cd_isN isND_mono (DE.var (pv 5)) DE.non (nomark _)) DE.non (DE.call G_law_at (hr.mono h_law_at) rfl D_law_at.m D_law_at.k D_law_at.b (DA.cons (DE.var (pv 0)) (DA.cons (DE.op od_add addD_mono (DE.ix (DE.var (pv 4)) DE.int (fun _ _ => rfl)) DE.int) DA.nil)))) nd rfl (by first | exact Or.inl rfl | exact Or.inr rfl)) (DSs.cons (DS.ife (DW.t (DW.or (DT.cmp cd_isN isND_mono (DE.var (pv 6)) DE.non (nomark _)) (DW.or1 (DT.cmp cd_ne neD_mono (DE.slice (DE.var (pv 0)) (DO.some (DE.ix (DE.var (pv 6)) DE.int (fun _ _ => rfl))) (DO.some (DE.op od_add addD_mono (DE.ix (DE.var (pv 6)) DE.int (fun _ _ => rfl)) DE.int))) DE.str (nomark _))))) (DSs.one (DS.ret DE.non)) DSs.nil) (DSs.one (DS.ret (DE.tup (DA.cons (DE.fz (DE.tup (DA.cons (DE.fz (DE.var (pv 5))) (DA.cons (DE.fz (DE.ix (DE.var (pv 4)) DE.int (fun _ _ => rfl))) (DA.cons (DE.fz (DE.ix (DE.var (pv 6)) DE.int (fun _ _ => rfl))) DA.nil))))) (DA.cons (DE.fz (DE.op od_add addD_mono (DE.op od_add addD_mono (DE.ix (DE.var (pv 4)) DE.int (fun _ _ => rfl)) (DE.ix (DE.var (pv 6)) DE.int (fun _ _ => rfl))) DE.int)) (DA.cons (DE.fz (DE.op od_add addD_mono (DE.ix (DE.var (pv 6)) DE.int (fun _ _ => rfl)) DE.int)) DA.nil)))))))))))) DSs.nil) (DSs.one (DS.ret DE.non))))))))
noncomputable abbrev st_law_told : Stmt := top 29
noncomputable abbrev N_law_told : List Str := ["_law_text_here", "e", "_law_flags"]
theorem sc_law_told : FnScope ["_law_text_here", "e", "_law_flags"] ["_law_text_here"] (defScope st_law_told) := ⟨rfl, rfl, rfl, by decide +kernel, rfl, by decide +kernel, by decide +kernel⟩
noncomputable def wb_law_told (sp_read : DSpX) (XE : Addr → Prop) : WS := (wRet (wCallX XE sp_read (wCons (wV 0) wNil)))
noncomputable def wh_law_told (a : Addr) : WS := (wSeq (wSet 2 (wLst (wCons (wFz (wIsiX 1 a true)) (wCons (wFz (wIsiX 1 a false)) (wCons (wFz (wIsiX 1 a false)) wNil))))) (wIfS (wAnd (wTru (wIsiX 1 a true)) (wOp (eqD 60 false) (wV 2) (wLst (wCons (wFz (wC (.bl true))) (wCons (wFz (wC (.bl false))) (wCons (wFz (wC (.bl false))) wNil)))))) (wRet (wC .non)) wNext))
noncomputable def wr_law_told : WS := (wRet (wC (.bl false)))
noncomputable def w_law_told (C_NoWriting : Addr) (sp_read : DSpX) : WS := wTry N_law_told 1 (fun c => c = C_NoWriting) (wb_law_told sp_read) (fun _ a => wh_law_told a) wr_law_told
set_option maxHeartbeats 4000000 in
theorem ok_law_told {C_KindError : Addr} (O_KindError : OwnCls "KindError" C_KindError mroV "ValueError.__new__" mg base) {C_NoWriting : Addr} (O_NoWriting : OwnCls "NoWriting" C_NoWriting mroV "ValueError.__new__" mg base) {C_NoSign : Addr} (O_NoSign : OwnCls "NoSign" C_NoSign mroV "ValueError.__new__" mg base) {C_NoGiven : Addr} (O_NoGiven : OwnCls "NoGiven" C_NoGiven mroV "ValueError.__new__" mg base) (B_NoWriting : Below base C_NoWriting C_KindError) (V_NoWriting : PySem.W.ExcK K C_NoWriting) (k_NoWriting : PySem.W.kitOne K (.ref C_NoWriting) (.ref C_NoWriting) = some true) (k_NoSign : PySem.W.kitOne K (.ref C_NoWriting) (.ref C_NoSign) = some false) (k_NoGiven : PySem.W.kitOne K (.ref C_NoWriting) (.ref C_NoGiven) = some false) (k_ValueError : PySem.W.kitOne K (.ref C_NoWriting) (.type "ValueError") = some true) {k : Nat} {f : Addr} {fd : FuncData} {sp : DSp} {l_read : Nat} {a_read : Addr} {fd_read : FuncData} {sp_read : DSpX} (D_read : Df K mg "read" (top 16) ["text"] a_read fd_read) (G_read : FnX P w K mg base l_read a_read fd_read ["text"] sp_read) (h_read : l_read ≤ k) (T : Txt K mg w) (D : Df K mg "_law_told" st_law_told ["_law_text_here"] f fd)
    (hw : ∀ rs r, rs.length = 1 → sp rs r → w_law_told C_NoWriting sp_read (Ends1 r) (startD N_law_told rs)) : FnD P w K mg base (k + 1) f fd ["_law_text_here"] sp := by
  have nd := sc_law_told.nd
  refine Fun.okTry (i := 1) (n := "e") (XE := fun c => c = C_NoWriting) (wb := wb_law_told sp_read) (wh := fun _ a => wh_law_told a) (wr := wr_law_told) D.F sc_law_told rfl rfl (by decide) rfl O_KindError (fun c hc => by subst hc; exact B_NoWriting) (fun _ _ _ _ _ _ => rfl)
    (fun cdv A outer s H E XE hr => ?_) (fun cdv A outer s H E c a pn hr hc hpn => ?_) (fun cdv A outer s H E hr => ?_) hw
  · exact (DSs.one (DS.ret (DE.callX G_read (hr.mono h_read) rfl D_read.m D_read.k D_read.b (DA.cons (DE.var (pv 0)) DA.nil) rfl)))
  · have hc := hc.symm
    subst hc
    have hu6 := hu60 hr
    have hu5 := hu59 hr
    exact (DSs.cons (DS.set (i := 2) (DE.lst (DA.cons (DE.fz (DE.isiX (he := pv 1) hpn V_NoWriting rfl T.m_isinstance bt_isinstance (pe_glob (v := .ref C_NoWriting) rfl O_NoWriting.bound rfl) (fun _ r => r) k_NoWriting)) (DA.cons (DE.fz (DE.isiX (he := pv 1) hpn V_NoWriting rfl T.m_isinstance bt_isinstance (pe_glob (v := .ref C_NoSign) rfl O_NoSign.bound rfl) (fun _ r => r) k_NoSign)) (DA.cons (DE.fz (DE.isiX (he := pv 1) hpn V_NoWriting rfl T.m_isinstance bt_isinstance (pe_glob (v := .ref C_NoGiven) rfl O_NoGiven.bound rfl) (fun _ r => r) k_NoGiven)) DA.nil)))) nd rfl (by first | exact Or.inl rfl | exact Or.inr rfl)) (DSs.one (DS.ife (DW.t (DW.and (DT.tru (DE.isiX (he := pv 1) hpn V_NoWriting rfl T.m_isinstance bt_isinstance (pe_bltn (v := .ty "ValueError") rfl T.m_ValueError bt_ValueError rfl) (fun _ r => r) k_ValueError) (fun _ => rfl)) (DW.and1 (DT.cmp (cd_eq (n := 60) hu6) eqD_mono (DE.var (pv 2)) (DE.lst (DA.cons (DE.fz DE.bl) (DA.cons (DE.fz DE.bl) (DA.cons (DE.fz DE.bl) DA.nil)))) (nomark _))))) (DSs.one (DS.ret DE.non)) DSs.nil)))
  · exact (DSs.one (DS.ret DE.bl))
noncomputable abbrev st_law : Stmt := top 30
noncomputable abbrev N_law : List Str := ["_law_script", "_law_text_here", "_law_at_here", "_law_sign", "_law_some", "_law_other", "_law_due", "_law_told_here"]
theorem sc_law : FnScope ["_law_script", "_law_text_here", "_law_at_here", "_law_sign", "_law_some", "_law_other", "_law_due", "_law_told_here"] ["_law_script"] (defScope st_law) := ⟨rfl, rfl, rfl, by decide +kernel, rfl, by decide +kernel, by decide +kernel⟩
noncomputable def w_law  (sp_written : DSp) (sp_law_shape : DSp) (sp_law_drawn : DSp) (sp_law_at : DSp) (sp_law_told : DSp) : WS := (wSeq (wSet 1 (wCall sp_written (wCons (wCall sp_law_shape (wCons (wV 0) (wCons (wC (.int 1)) (wCons (wC (.int 2)) wNil)))) wNil))) (wSeq (wSet 2 (wCall sp_law_drawn (wCons (wV 0) (wCons (wC (.int 200)) (wCons (wOp addD (wCB lenD (wCons (wV 1) wNil)) (wC (.int 1))) wNil))))) (wSeq (wSet 3 (wOp ixD (wC (.str "01ab()[]!*|& {}x")) (wCall sp_law_drawn (wCons (wV 0) (wCons (wC (.int 201)) (wCons (wC (.int 16)) wNil)))))) (wSeq (wSet 4 (wLst (wCons (wFz (wOp addD (wOp addD (wSl (wV 1) oNone (oSome (wV 2))) (wV 3)) (wSl (wV 1) (oSome (wV 2)) oNone))) (wCons (wFz (wOp addD (wSl (wV 1) oNone (oSome (wV 2))) (wSl (wV 1) (oSome (wOp addD (wV 2) (wC (.int 1)))) oNone))) (wCons (wFz (wOp addD (wOp addD (wSl (wV 1) oNone (oSome (wV 2))) (wV 3)) (wSl (wV 1) (oSome (wOp addD (wV 2) (wC (.int 1)))) oNone))) wNil))))) (wSeq (wAppend 4 (wFz (wOp addD (wOp addD (wOp addD (wOp addD (wC (.str "(")) (wV 1)) (wC (.str "|"))) (wV 1)) (wC (.str ")"))))) (wSeq (wAppend 4 (wFz (wOp ixD (wLst (wCons (wFz (wC (.str ""))) (wCons (wFz (wOp addD (wOp mulS (wC (.str "!")) (wC (.int 16))) (wC (.str "a")))) (wCons (wFz (wOp addD (wOp mulS (wC (.str "!")) (wC (.int 14))) (wC (.str "a")))) (wCons (wFz (wOp addD (wOp mulS (wC (.str "!")) (wC (.int 15))) (wC (.str "a")))) (wCons (wFz (wC (.str "[]"))) (wCons (wFz (wC (.str "(a b"))) wNil))))))) (wOp (intD (fun _ j => 0 < j) fun i j => i % j) (wV 2) (wC (.int 6)))))) (wSeq (wFor (iLst (wFz (wOp addD (wV 4) (wLst (wCons (wFz (wV 1)) wNil))))) (gNm 5) (wSeq (wSet 6 (wCall sp_law_at (wCons (wV 5) (wCons (wC (.int 0)) wNil)))) (wSeq (wIfS (wAnd (wOp (isND true) (wV 6) (wC .non)) (wOr (wOp (cmpI fun i j => decide (j < i)) (wOp ixD (wV 6) (wC (.int 1))) (wC (.int 15))) (wOp neD (wOp ixD (wV 6) (wC (.int 2))) (wCB lenD (wCons (wV 5) wNil))))) (wSet 6 (wC .non)) wNext) (wSeq (wSet 7 (wCall sp_law_told (wCons (wV 5) wNil))) (wIfS (wOr (wOp (eqD 59 true) (wV 7) (wIf (wOp (isND false) (wV 6) (wC .non)) (wC .non) (wOp ixD (wV 6) (wC (.int 0))))) (wAnd (wOp (isND true) (wV 7) (wC .non)) (wOp neD (wCall sp_written (wCons (wV 7) wNil)) (wV 5)))) (wRet (wC (.bl false))) wNext))))) (wRet (wC (.bl true))))))))))
set_option maxHeartbeats 4000000 in
theorem ok_law {k : Nat} {f : Addr} {fd : FuncData} {sp : DSp} {l_written : Nat} {a_written : Addr} {fd_written : FuncData} {sp_written : DSp} {l_law_shape : Nat} {a_law_shape : Addr} {fd_law_shape : FuncData} {sp_law_shape : DSp} {l_law_drawn : Nat} {a_law_drawn : Addr} {fd_law_drawn : FuncData} {sp_law_drawn : DSp} {l_law_at : Nat} {a_law_at : Addr} {fd_law_at : FuncData} {sp_law_at : DSp} {l_law_told : Nat} {a_law_told : Addr} {fd_law_told : FuncData} {sp_law_told : DSp} (D_written : Df K mg "written" (top 20) ["shape"] a_written fd_written) (G_written : FnD P w K mg base l_written a_written fd_written ["shape"] sp_written) (h_written : l_written ≤ k) (D_law_shape : Df K mg "_law_shape" (top 27) ["_law_script", "_law_at_here", "_law_deep"] a_law_shape fd_law_shape) (G_law_shape : FnD P w K mg base l_law_shape a_law_shape fd_law_shape ["_law_script", "_law_at_here", "_law_deep"] sp_law_shape) (h_law_shape : l_law_shape ≤ k) (D_law_drawn : Df K mg "_law_drawn" (top 24) ["_law_script", "_law_k", "_law_many"] a_law_drawn fd_law_drawn) (G_law_drawn : FnD P w K mg base l_law_drawn a_law_drawn fd_law_drawn ["_law_script", "_law_k", "_law_many"] sp_law_drawn) (h_law_drawn : l_law_drawn ≤ k) (D_law_at : Df K mg "_law_at" (top 28) ["_law_text_here", "_law_place"] a_law_at fd_law_at) (G_law_at : FnD P w K mg base l_law_at a_law_at fd_law_at ["_law_text_here", "_law_place"] sp_law_at) (h_law_at : l_law_at ≤ k) (D_law_told : Df K mg "_law_told" (top 29) ["_law_text_here"] a_law_told fd_law_told) (G_law_told : FnD P w K mg base l_law_told a_law_told fd_law_told ["_law_text_here"] sp_law_told) (h_law_told : l_law_told ≤ k) (T : Txt K mg w) (D : Df K mg "law" st_law ["_law_script"] f fd)
    (hw : ∀ rs r, rs.length = 1 → sp rs r → w_law  sp_written sp_law_shape sp_law_drawn sp_law_at sp_law_told (Ends1 r) (startD N_law rs)) : FnD P w K mg base (k + 1) f fd ["_law_script"] sp := by
  refine D.ok sc_law (ws := w_law  sp_written sp_law_shape sp_law_drawn sp_law_at sp_law_told) (fun cdv A outer s H E hr => ?_) hw
  have nd := sc_law.nd
  exact (DSs.cons (DS.set (i := 1) (DE.call G_written (hr.mono h_written) rfl D_written.m D_written.k D_written.b (DA.cons (DE.call G_law_shape (hr.mono h_law_shape) rfl D_law_shape.m D_law_shape.k D_law_shape.b (DA.cons (DE.var (pv 0)) (DA.cons DE.int (DA.cons DE.int DA.nil)))) DA.nil)) nd rfl (by first | exact Or.inl rfl | exact Or.inr rfl)) (DSs.cons (DS.set (i := 2) (DE.call G_law_drawn (hr.mono h_law_drawn) rfl D_law_drawn.m D_law_drawn.k D_law_drawn.b (DA.cons (DE.var (pv 0)) (DA.cons DE.int (DA.cons (DE.op od_add addD_mono (DE.callB call_lenR lenD_mono rfl T.m_len bt_len (DA.cons (DE.var (pv 1)) DA.nil)) DE.int) DA.nil)))) nd rfl (by first | exact Or.inl rfl | exact Or.inr rfl)) (DSs.cons (DS.set (i := 3) (DE.ix DE.str (DE.call G_law_drawn (hr.mono h_law_drawn) rfl D_law_drawn.m D_law_drawn.k D_law_drawn.b (DA.cons (DE.var (pv 0)) (DA.cons DE.int (DA.cons DE.int DA.nil)))) (fun _ _ => rfl)) nd rfl (by first | exact Or.inl rfl | exact Or.inr rfl)) (DSs.cons (DS.set (i := 4) (DE.lst (DA.cons (DE.fz (DE.op od_add addD_mono (DE.op od_add addD_mono (DE.slice (DE.var (pv 1)) DO.none (DO.some (DE.var (pv 2)))) (DE.var (pv 3))) (DE.slice (DE.var (pv 1)) (DO.some (DE.var (pv 2))) DO.none))) (DA.cons (DE.fz (DE.op od_add addD_mono (DE.slice (DE.var (pv 1)) DO.none (DO.some (DE.var (pv 2)))) (DE.slice (DE.var (pv 1)) (DO.some (DE.op od_add addD_mono (DE.var (pv 2)) DE.int)) DO.none))) (DA.cons (DE.fz (DE.op od_add addD_mono (DE.op od_add addD_mono (DE.slice (DE.var (pv 1)) DO.none (DO.some (DE.var (pv 2)))) (DE.var (pv 3))) (DE.slice (DE.var (pv 1)) (DO.some (DE.op od_add addD_mono (DE.var (pv 2)) DE.int)) DO.none))) DA.nil)))) nd rfl (by first | exact Or.inl rfl | exact Or.inr rfl)) (DSs.cons (DS.append (pv 4) (DE.fz (DE.op od_add addD_mono (DE.op od_add addD_mono (DE.op od_add addD_mono (DE.op od_add addD_mono DE.str (DE.var (pv 1))) DE.str) (DE.var (pv 1))) DE.str))) (DSs.cons (DS.append (pv 4) (DE.fz (DE.ix (DE.lst (DA.cons (DE.fz DE.str) (DA.cons (DE.fz (DE.op od_add addD_mono (DE.op od_mulS mulS_mono DE.str DE.int) DE.str)) (DA.cons (DE.fz (DE.op od_add addD_mono (DE.op od_mulS mulS_mono DE.str DE.int) DE.str)) (DA.cons (DE.fz (DE.op od_add addD_mono (DE.op od_mulS mulS_mono DE.str DE.int) DE.str)) (DA.cons (DE.fz DE.str) (DA.cons (DE.fz DE.str) DA.nil))))))) (DE.op od_mod intD_mono (DE.var (pv 2)) DE.int) (fun _ _ => rfl)))) (DSs.cons (DS.for PassesOwn.never rfl (DI.lst (DE.fz (DE.op od_add addD_mono (DE.var (pv 4)) (DE.lst (DA.cons (DE.fz (DE.var (pv 1))) DA.nil))))) (DG.nm (i := 5) nd rfl (by first | exact Or.inl rfl | exact Or.inr rfl)) (DSs.cons (DS.set (i := 6) (DE.call G_law_at (hr.mono h_law_at) rfl D_law_at.m D_law_at.k D_law_at.b (DA.cons (DE.var (pv 5)) (DA.cons DE.int DA.nil))) nd rfl (by first | exact Or.inl rfl | exact Or.inr rfl)) (DSs.cons (DS.ife (DW.t (DW.and (DT.cmp cd_notN isND_mono (DE.var (pv 6)) DE.non (nomark _)) (DW.and1 (DW.t (DW.or (DT.cmp cd_gt cmpI_mono (DE.ix (DE.var (pv 6)) DE.int (fun _ _ => rfl)) DE.int (nomark _)) (DW.or1 (DT.cmp cd_ne neD_mono (DE.ix (DE.var (pv 6)) DE.int (fun _ _ => rfl)) (DE.callB call_lenR lenD_mono rfl T.m_len bt_len (DA.cons (DE.var (pv 5)) DA.nil)) (nomark _)))))))) (DSs.one (DS.set (i := 6) DE.non nd rfl (by first | exact Or.inl rfl | exact Or.inr rfl))) DSs.nil) (DSs.cons (DS.set (i := 7) (DE.call G_law_told (hr.mono h_law_told) rfl D_law_told.m D_law_told.k D_law_told.b (DA.cons (DE.var (pv 5)) DA.nil)) nd rfl (by first | exact Or.inl rfl | exact Or.inr rfl)) (DSs.one (DS.ife (DW.t (DW.or (DT.cmp (cd_neD (n := 59) (hu59 hr)) eqD_mono (DE.var (pv 7)) (DE.ife (DT.cmp cd_isN isND_mono (DE.var (pv 6)) DE.non (nomark _)) DE.non (DE.ix (DE.var (pv 6)) DE.int (fun _ _ => rfl))) (nomark _)) (DW.or1 (DW.t (DW.and (DT.cmp cd_notN isND_mono (DE.var (pv 7)) DE.non (nomark _)) (DW.and1 (DT.cmp cd_ne neD_mono (DE.call G_written (hr.mono h_written) rfl D_written.m D_written.k D_written.b (DA.cons (DE.var (pv 7)) DA.nil)) (DE.var (pv 5)) (nomark _)))))))) (DSs.one (DS.ret DE.bl)) DSs.nil)))))) (DSs.one (DS.ret DE.bl)))))))))
end
end K81
end
section
set_option maxRecDepth 100000
namespace K81
open PySem PySem.Spec PyProof.Rows L2 TK
theorem sq {a b : WS} {E : DEnds} {τ : DSt} (h : a { E with nx := b E } τ) : wSeq a b E τ := h
theorem ifN {t : WT} {ws b : WS} {E : DEnds} {τ : DSt} (h : ∀ Q : Bool → Prop, Q false → t τ Q) (g : b E τ) : wSeq (wIfS t ws wNext) b E τ := h _ g
theorem ifY {t : WT} {ws wt b : WS} {E : DEnds} {τ : DSt} (h : ∀ Q : Bool → Prop, Q true → t τ Q) (g : ws { E with nx := b E } τ) : wSeq (wIfS t ws wt) b E τ := h _ g
theorem setS {we : WE} {b : WS} {E : DEnds} {τ : DSt} {i : Nat} {r : R} {s : Sl} (h : ∀ Q : R → Prop, Q r → we τ Q) (hs : ∀ Q : Sl → Prop, Q s → stoR r Q) (g : b E (τ.set i (some s))) : wSeq (wSet i we) b E τ := h _ (hs _ g)
noncomputable abbrev scr (ns : List Int) : D := .lst (ns.map D.int)
noncomputable def cellF (ns : List Int) (k : Int) : Int := if ns = [] then 7 * k else (ns[(k % (ns.length : Int)).toNat]?.getD 0) + 6553 * (k / (ns.length : Int))
noncomputable def sp_cell : DSp := fun rs r => ∃ ns k, rs = [.st (scr ns), .st (.int k)] ∧ ns.length ≤ 63 ∧ r = .st (.int (cellF ns k))
theorem depth_scr (ns : List Int) : D.depth (scr ns) ≤ 60 := by
  have : D.depths (ns.map D.int) = 0 := by
    induction ns with
    | nil => simp [D.depths]
    | cons n r ih => simp [D.depths, D.depth, ih]
  simp [D.depth, this]
theorem atI_scr {ns : List Int} {k : Int} (h : ns ≠ []) : atI (ns.map D.int) (k % (ns.length : Int)) = some (.int (ns[(k % (ns.length : Int)).toNat]?.getD 0)) := by
  have hp : 0 < (ns.length : Int) := by have := List.length_pos_iff.mpr h; omega
  have h0 := Int.emod_nonneg k (by omega : (ns.length : Int) ≠ 0)
  have h1 := Int.emod_lt_of_pos k hp
  have hlt : (k % (ns.length : Int)).toNat < ns.length := by omega
  have e : k % (ns.length : Int) = (((k % (ns.length : Int)).toNat : Nat) : Int) := by omega
  have q : atI (ns.map D.int) (((k % (ns.length : Int)).toNat : Nat) : Int) = some (.int (ns[(k % (ns.length : Int)).toNat]?.getD 0)) := atI_nat (by rw [List.getElem?_map, List.getElem?_eq_getElem hlt]; rfl)
  rw [← e] at q
  exact q
theorem rd_cell : ∀ rs r, rs.length = 2 → sp_cell rs r → w_law_cell (Ends1 r) (startD N_law_cell rs) := by
  rintro rs r _ ⟨ns, k, rfl, hn, rfl⟩
  have hd := depth_scr ns
  by_cases h : ns = []
  · subst h
    simp [w_law_cell, CMul, cellF, hd, D.depth, D.depths]
  · have hp : 0 < (ns.length : Int) := by have := List.length_pos_iff.mpr h; omega
    simp [w_law_cell, CMul, CDiv, cellF, hd, h, atI_scr h]
    omega
noncomputable def drawnF (ns : List Int) (k m : Int) : Int :=
  let c := ((cellF ns k) % 2147483563 * 69069 + 104723 * (k + 1)) % 2147483563
  let c := (c * c + c / 3) % 2147483399
  (c * c + c / 7) % 2147483647 / 11 % m
noncomputable def sp_drawn : DSp := fun rs r => ∃ ns k m, rs = [.st (scr ns), .st (.int k), .st (.int m)] ∧ ns.length ≤ 63 ∧ 0 < m ∧ r = .st (.int (drawnF ns k m))
theorem rd_drawn : ∀ rs r, rs.length = 3 → sp_drawn rs r → w_law_drawn sp_cell (Ends1 r) (startD N_law_drawn rs) := by
  rintro rs r _ ⟨ns, k, m, rfl, hn, hm, rfl⟩
  have key : ∀ c : Int, 0 ≤ c → c < 2147483648 → CMul c c := fun c h1 h2 => .inl ⟨by omega, by omega⟩
  simp [w_law_drawn, sp_cell, hm, hn]
  refine ⟨_, ⟨ns, k, ⟨rfl, rfl⟩, hn, rfl⟩, ?_⟩
  have e1 := Int.emod_nonneg (cellF ns k) (by decide : (2147483563 : Int) ≠ 0)
  have e2 := Int.emod_lt_of_pos (cellF ns k) (by decide : (0 : Int) < 2147483563)
  have b1 := Int.emod_nonneg (cellF ns k % 2147483563 * 69069 + 104723 * (k + 1)) (by decide : (2147483563 : Int) ≠ 0)
  have b2 := Int.emod_lt_of_pos (cellF ns k % 2147483563 * 69069 + 104723 * (k + 1)) (by decide : (0 : Int) < 2147483563)
  simp only [o_intD, o_mul, o_add1, o_sto1, o_rd1, o_ret1, o_ends, drawnF]
  generalize (cellF ns k % 2147483563 * 69069 + 104723 * (k + 1)) % 2147483563 = c at b1 b2 ⊢
  have b3 := Int.emod_nonneg (c * c + c / 3) (by decide : (2147483399 : Int) ≠ 0)
  have b4 := Int.emod_lt_of_pos (c * c + c / 3) (by decide : (0 : Int) < 2147483399)
  generalize (c * c + c / 3) % 2147483399 = c2 at b3 b4 ⊢
  have cd : ∀ c : Int, CDiv c 3 ∧ CDiv c 7 ∧ CDiv c 11 := fun c => ⟨⟨by decide, by decide⟩, ⟨by decide, by decide⟩, ⟨by decide, by decide⟩⟩
  exact ⟨by decide, .inl ⟨by omega, by omega⟩, .inl ⟨by decide, by decide⟩, by decide, key _ b1 (by omega), (cd c).1, by decide, key _ b3 (by omega), (cd c2).2.1, by decide, (cd _).2.2, hm, trivial⟩
theorem drawn_nn (ns : List Int) (k : Int) {m : Int} (h : 0 < m) : 0 ≤ drawnF ns k m := Int.emod_nonneg _ (by omega)
theorem drawn_lt (ns : List Int) (k : Int) {m : Int} (h : 0 < m) : drawnF ns k m < m := Int.emod_lt_of_pos _ h
end K81
end
section
set_option maxRecDepth 100000
set_option maxHeartbeats 4000000
namespace K81
open PySem PySem.Spec PyProof.Rows L2 TK
theorem strsOf_map : ∀ l : List Str, strsOf (l.map D.str) = some l
  | [] => rfl
  | x :: r => by simp [strsOf, strsOf_map r]
noncomputable def sgList : List Str := ["0", "1", "01", "a", "0a", "1a", "01a", "b", "0b", "1b", "01b", "ab", "0ab", "1ab", "01ab"]
theorem sub_cons {α : Type} {a : α} {l ys : List α} (h : ys.Sublist (a :: l)) : ys.Sublist l ∨ ∃ r, ys = a :: r ∧ r.Sublist l := by
  cases h with
  | cons _ h => exact .inl h
  | cons_cons _ h => exact .inr ⟨_, rfl, h⟩
noncomputable def subs {α : Type} : List α → List (List α)
  | [] => [[]]
  | a :: l => subs l ++ (subs l).map (a :: ·)
theorem mem_subs {α : Type} : ∀ {l ys : List α}, ys.Sublist l → ys ∈ subs l
  | [], ys, h => by cases h; simp [subs]
  | a :: l, ys, h => by
    rcases sub_cons h with h1 | ⟨r, e, h1⟩
    · exact List.mem_append_left _ (mem_subs h1)
    · exact List.mem_append_right _ (List.mem_map.mpr ⟨r, mem_subs h1, e.symm⟩)
theorem sg_sub {ys : List Str} (h : ys.Sublist (["0", "1", "a", "b"] : List Str)) : Txt.join "" ys = "" ∨ Txt.join "" ys ∈ sgList :=
  (by decide +kernel : ∀ ys ∈ subs (["0", "1", "a", "b"] : List Str), Txt.join "" ys = "" ∨ Txt.join "" ys ∈ sgList) ys (mem_subs h)
theorem comp_drawn (ns : List Int) (hn : ns.length ≤ 63) (at_ : Int) : ∀ (l : List (Nat × Str)) (o1 o2 : Option Sl), ∃ ys : List Str, ys.Sublist (l.map (·.2)) ∧ ys.length ≤ l.length ∧
    ∀ Q : List D → Prop, Q (ys.map D.str) → compW (gTp 2 (gCn (gNm 0) (gCn (gNm 1) gNl))) (wOp (eqD 60 false) (wCall sp_drawn (wCons (wV 2) (wCons (wOp addD (wOp addD (wV 3) (wC (.int 1))) (wV 0)) (wCons (wC (.int 2)) wNil)))) (wC (.int 0))) (wFz (wV 1))
      (l.map fun p => .tup [.int (p.1 : Int), .str p.2]) [o1, o2, some (.dat (scr ns)), some (.dat (.int at_))] Q
  | [], o1, o2 => ⟨[], by simp, by simp, fun Q h => h⟩
  | p :: r, o1, o2 => by
    obtain ⟨ys, h1, h2, h3⟩ := comp_drawn ns hn at_ r (some (.dat (.int (p.1 : Int)))) (some (.dat (.str p.2)))
    by_cases hd : drawnF ns (at_ + 1 + (p.1 : Int)) 2 = 0
    · refine ⟨p.2 :: ys, ?_, by simp; exact h2, fun Q q => ?_⟩
      · exact h1.cons_cons _
      · simp only [List.map_cons, compW]
        simp
        refine ⟨_, ⟨ns, at_ + 1 + (p.1 : Int), 2, rfl, hn, by decide, rfl⟩, ?_⟩
        simp [hd]
        exact h3 _ q
    · refine ⟨ys, h1.cons _, by simp; omega, fun Q q => ?_⟩
      simp only [List.map_cons, compW]
      simp
      refine ⟨_, ⟨ns, at_ + 1 + (p.1 : Int), 2, rfl, hn, by decide, rfl⟩, ?_⟩
      simp [hd]
      exact h3 _ q
theorem enm_all : enmD (sgnD "01ab") = ([(0, "0"), (1, "1"), (2, "a"), (3, "b")] : List (Nat × Str)).map fun p => .tup [.int (p.1 : Int), .str p.2] := by rfl
theorem sum_one : ∀ l : List Str, (∀ s ∈ l, s.length ≤ 1) → (l.map (·.length)).sum ≤ l.length
  | [], _ => by simp
  | s :: r, h => by
    have h1 := h s List.mem_cons_self
    have h2 := sum_one r fun z hz => h z (List.mem_cons_of_mem _ hz)
    simp only [List.map_cons, List.sum_cons, List.length_cons]
    omega
theorem atI_lt {α : Type} (l : List α) {i : Int} (h0 : 0 ≤ i) (h1 : i < (l.length : Int)) : ∃ d ∈ l, atI l i = some d := by
  have hlt : i.toNat < l.length := by omega
  have e : i = ((i.toNat : Nat) : Int) := by omega
  refine ⟨l[i.toNat], List.getElem_mem hlt, ?_⟩
  have q : atI l ((i.toNat : Nat) : Int) = some l[i.toNat] := atI_nat (List.getElem?_eq_getElem hlt)
  rw [← e] at q
  exact q
noncomputable def leafs : List D := [Sh.toD .none, Sh.toD .empty, Sh.toD (.signs "a"), Sh.toD .empty]
noncomputable def okS : Sh → Prop
  | .signs s => s ∈ sgList
  | .thn a b => okS a ∧ okS b
  | .or a b => okS a ∧ okS b
  | .and a b => okS a ∧ okS b
  | .not a => okS a
  | .many a => okS a
  | _ => True
theorem leaf_ok {d : D} (h : d ∈ leafs) : ∃ s : Sh, d = s.toD ∧ s.high = 0 ∧ okS s := by
  simp only [leafs, List.mem_cons, List.not_mem_nil, or_false] at h
  rcases h with rfl | rfl | rfl | rfl <;> exact ⟨_, rfl, rfl, by simp [okS, sgList]⟩
noncomputable def shB (sp_law_drawn : DSp) : WS := (wSeq (wSet 4 (wJoin (wC (.str "")) (wComp 2 [0, 1] (jEnum (wCons (wC (.str "01ab")) wNil)) (gTp 2 (gCn (gNm 0) (gCn (gNm 1) gNl))) (wOp (eqD 60 false) (wCall sp_law_drawn (wCons (wV 2) (wCons (wOp addD (wOp addD (wV 3) (wC (.int 1))) (wV 0)) (wCons (wC (.int 2)) wNil)))) (wC (.int 0))) (wFz (wV 1))))) (wSeq (wSet 5 (wTup (wCons (wFz (wC (.str "signs"))) (wCons (wFz (wV 4)) wNil)))) (wSeq (wIfS (wOp (eqD 60 false) (wV 4) (wC (.str ""))) (wSet 5 (wOp ixD (wLst (wCons (wFz (wTup (wCons (wFz (wC (.str "none"))) wNil))) (wCons (wFz (wTup (wCons (wFz (wC (.str "empty"))) wNil))) (wCons (wFz (wTup (wCons (wFz (wC (.str "signs"))) (wCons (wFz (wC (.str "a"))) wNil)))) (wCons (wFz (wTup (wCons (wFz (wC (.str "empty"))) wNil))) wNil))))) (wCall sp_law_drawn (wCons (wV 0) (wCons (wOp addD (wV 1) (wC (.int 5))) (wCons (wC (.int 4)) wNil)))))) wNext) (wRetV 5))))
noncomputable def shT (sp_law_shape : DSp) : WS := (wSeq (wIfS (wOp (cmpI fun i j => decide (i < j)) (wV 3) (wC (.int 4))) (wRet (wTup (wCons (wFz (wOp ixD (wLst (wCons (wFz (wC (.str "not"))) (wCons (wFz (wC (.str "many"))) wNil))) (wOp (intD NoC fun i j => i - j) (wV 3) (wC (.int 2))))) (wCons (wFz (wV 6)) wNil)))) wNext) (wRet (wTup (wCons (wFz (wOp ixD (wLst (wCons (wFz (wC (.str "then"))) (wCons (wFz (wC (.str "or"))) (wCons (wFz (wC (.str "and"))) (wCons (wFz (wC (.str "then"))) (wCons (wFz (wC (.str "or"))) wNil)))))) (wOp (intD NoC fun i j => i - j) (wV 3) (wC (.int 4))))) (wCons (wFz (wV 6)) (wCons (wFz (wCall sp_law_shape (wCons (wV 0) (wCons (wOp addD (wOp mulD (wV 1) (wC (.int 2))) (wC (.int 31))) (wCons (wOp (intD NoC fun i j => i - j) (wV 2) (wC (.int 1))) wNil))))) wNil))))))
section
variable {sp : DSp} {ns : List Int} {at_ deep : Int} {E : DEnds}
theorem dr_ok (hn : ns.length ≤ 63) {o2 o3 o4 o5 o6 : Option Sl} (Q : R → Prop) (h : Q (.st (.int (drawnF ns at_ 9)))) : (wCall sp_drawn (wCons (wV 0) (wCons (wV 1) (wCons (wC (.int 9)) wNil)))) [some (.dat (scr ns)), some (.dat (.int at_)), o2, o3, o4, o5, o6] Q := by
  simp
  exact ⟨_, ⟨ns, at_, 9, rfl, hn, by decide, rfl⟩, h⟩
theorem or_ok {d : Int} {o0 o1 o4 o5 o6 : Option Sl} {b : Bool} (hb : (decide (deep = 0) || decide (d < 2)) = b) (Q : Bool → Prop) (h : Q b) : (wOr (wOp (eqD 60 false) (wV 2) (wC (.int 0))) (wOp (cmpI fun i j => decide (i < j)) (wV 3) (wC (.int 2)))) [o0, o1, some (.dat (.int deep)), some (.dat (.int d)), o4, o5, o6] Q := by
  simp
  rw [← hb] at h
  by_cases h0 : deep = 0
  · rw [if_pos h0]; rw [decide_eq_true h0, Bool.true_or] at h; exact h
  · rw [if_neg h0]; rw [decide_eq_false h0, Bool.false_or] at h; exact h
theorem shp_yes (hn : ns.length ≤ 63) (hd : deep = 0 ∨ drawnF ns at_ 9 < 2) (g : ∀ X : DSt → Prop, shB sp_drawn { E with nx := X } [some (.dat (scr ns)), some (.dat (.int at_)), some (.dat (.int deep)), some (.dat (.int (drawnF ns at_ 9))), none, none, none]) :
    w_law_shape sp_drawn sp E (startD N_law_shape [.st (scr ns), .st (.int at_), .st (.int deep)]) :=
  setS (s := .dat (.int (drawnF ns at_ 9))) (dr_ok hn) (fun _ h => h) (ifY (or_ok (by rcases hd with h | h <;> simp [h])) (g _))
theorem shp_no (hn : ns.length ≤ 63) (h0 : ¬ deep = 0) (h1 : ¬ drawnF ns at_ 9 < 2) {a : D} (ha : sp [.st (scr ns), .st (.int (at_ * 2 + 11)), .st (.int (deep - 1))] (.st a))
    (g : shT sp E [some (.dat (scr ns)), some (.dat (.int at_)), some (.dat (.int deep)), some (.dat (.int (drawnF ns at_ 9))), none, none, some (.dat a)]) :
    w_law_shape sp_drawn sp E (startD N_law_shape [.st (scr ns), .st (.int at_), .st (.int deep)]) :=
  setS (s := .dat (.int (drawnF ns at_ 9))) (dr_ok hn) (fun _ h => h) (ifN (or_ok (by simp [h0]; omega)) (setS (s := .dat a) (r := .st a) (fun Q h => by
    have cm : CMul at_ 2 := .inr ⟨by decide, by decide⟩
    simp
    exact ⟨cm, _, ha, h⟩) (fun _ h => h) g))
end
theorem leaf_ex (sp : DSp) (ns : List Int) (hn : ns.length ≤ 63) (at_ deep : Int) (hd : deep = 0 ∨ drawnF ns at_ 9 < 2) :
    ∃ s : Sh, s.high = 0 ∧ okS s ∧ w_law_shape sp_drawn sp (Ends1 (.st s.toD)) (startD N_law_shape [.st (scr ns), .st (.int at_), .st (.int deep)]) := by
  obtain ⟨ys, h1, h2, h3⟩ := comp_drawn ns hn at_ [(0, "0"), (1, "1"), (2, "a"), (3, "b")] none none
  have z : ∀ m : Nat, m ≤ 100 → m ≤ sizeLine := fun m h => Nat.le_trans h (by decide)
  have hone : ∀ s ∈ ys, s.length ≤ 1 := fun s hs => by
    have := h1.subset hs
    simp only [List.map_cons, List.map_nil, List.mem_cons, List.not_mem_nil, or_false] at this
    rcases this with rfl | rfl | rfl | rfl <;> decide
  have hsum := sum_one ys hone
  have hz : (ys.map (·.length)).sum + ys.length * (Str.ofString "").length ≤ 16777216 := by
    have h4 : (Str.ofString "").length = 0 := rfl
    have h5 : ys.length ≤ 4 := h2
    rw [h4]; omega
  have hen : (enmD (sgnD "01ab")).length ≤ sizeLine := z _ (by rw [enm_all]; decide)
  by_cases hs : Txt.join "" ys = ""
  · have q0 := drawn_nn ns (at_ + 5) (m := 4) (by decide)
    have q1 := drawn_lt ns (at_ + 5) (m := 4) (by decide)
    obtain ⟨d, hdm, hda⟩ := atI_lt leafs q0 q1
    obtain ⟨s, rfl, hsh, hok⟩ := leaf_ok hdm
    refine ⟨s, hsh, hok, shp_yes hn hd fun X => ?_⟩
    simp [shB]
    refine Or.inl ⟨hen, ?_⟩
    rw [enm_all]
    refine h3 _ ⟨ys, strsOf_map ys, hz, z 2 (by decide), ?_⟩
    rw [if_pos hs]
    refine ⟨z 1 (by decide), z 2 (by decide), z 1 (by decide), z 4 (by decide), _, ⟨ns, at_ + 5, 4, rfl, hn, by decide, rfl⟩, ?_⟩
    simp
    exact hda
  · refine ⟨.signs (Txt.join "" ys), rfl, (sg_sub h1).resolve_left hs, shp_yes hn hd fun X => ?_⟩
    simp [shB]
    refine Or.inl ⟨hen, ?_⟩
    rw [enm_all]
    refine h3 _ ⟨ys, strsOf_map ys, hz, z 2 (by decide), ?_⟩
    rw [if_neg hs]
    rfl
noncomputable def sp_shape : Nat → DSp
  | 0 => fun _ _ => False
  | k + 1 => fun rs r => w_law_shape sp_drawn (sp_shape k) (Ends1 r) (startD N_law_shape rs)
theorem cmul_small {a : Int} : CMul a 2 := .inr ⟨by decide, by decide⟩
theorem shape_ex (ns : List Int) (hn : ns.length ≤ 63) : ∀ (k : Nat) (at_ deep : Int), 0 ≤ deep → deep < (k : Int) →
    ∃ s : Sh, (s.high : Int) ≤ deep ∧ okS s ∧ sp_shape k [.st (scr ns), .st (.int at_), .st (.int deep)] (.st s.toD)
  | 0, at_, deep, h0, h1 => by omega
  | k + 1, at_, deep, h0, h1 => by
    have z : ∀ m : Nat, m ≤ 100 → m ≤ sizeLine := fun m h => Nat.le_trans h (by decide)
    have cm := cmul_small (a := at_)
    by_cases hl : deep = 0 ∨ drawnF ns at_ 9 < 2
    · obtain ⟨d, e1, e2, e3⟩ := leaf_ex (sp_shape k) ns hn at_ deep hl
      exact ⟨d, by omega, e2, e3⟩
    · have n0 : ¬ deep = 0 := fun h => hl (Or.inl h)
      have n1 : ¬ drawnF ns at_ 9 < 2 := fun h => hl (Or.inr h)
      obtain ⟨a, a2, ao, a3⟩ := shape_ex ns hn k (at_ * 2 + 11) (deep - 1) (by omega) (by omega)
      obtain ⟨b, b2, bo, b3⟩ := shape_ex ns hn k (at_ * 2 + 31) (deep - 1) (by omega) (by omega)
      have q1 := drawn_lt ns at_ (m := 9) (by decide)
      by_cases h4 : drawnF ns at_ 9 < 4
      · obtain ⟨s, hs, hsa⟩ := atI_lt [D.str "not", D.str "many"] (i := drawnF ns at_ 9 - 2) (by omega) (by simp; omega)
        have ht : ∃ t, s = .str t ∧ ∃ x : Sh, x.toD = .tup [.str t, a.toD] ∧ x.high = a.high + 1 ∧ okS x := by
          simp at hs
          rcases hs with rfl | rfl
          · exact ⟨_, rfl, .not a, rfl, rfl, ao⟩
          · exact ⟨_, rfl, .many a, rfl, rfl, ao⟩
        obtain ⟨t, rfl, x, hx, hh, xo⟩ := ht
        refine ⟨x, by omega, xo, ?_⟩
        rw [hx]
        refine shp_no hn n0 n1 a3 ?_
        simp [shT, h4, z]
        exact hsa
      · obtain ⟨s, hs, hsa⟩ := atI_lt [D.str "then", D.str "or", D.str "and", D.str "then", D.str "or"] (i := drawnF ns at_ 9 - 4) (by omega) (by simp; omega)
        have ht : ∃ t, s = .str t ∧ ∃ x : Sh, x.toD = .tup [.str t, a.toD, b.toD] ∧ x.high = max a.high b.high + 1 ∧ okS x := by
          simp at hs
          rcases hs with rfl | rfl | rfl | rfl | rfl
          · exact ⟨_, rfl, .thn a b, rfl, rfl, ao, bo⟩
          · exact ⟨_, rfl, .or a b, rfl, rfl, ao, bo⟩
          · exact ⟨_, rfl, .and a b, rfl, rfl, ao, bo⟩
          · exact ⟨_, rfl, .thn a b, rfl, rfl, ao, bo⟩
          · exact ⟨_, rfl, .or a b, rfl, rfl, ao, bo⟩
        obtain ⟨t, rfl, x, hx, hh, xo⟩ := ht
        refine ⟨x, by omega, xo, ?_⟩
        rw [hx]
        refine shp_no hn n0 n1 a3 ?_
        simp [shT, h4, z]
        refine ⟨_, hsa, cm, _, b3, ?_⟩
        simp
theorem size_high : ∀ s : Sh, s.size + 1 ≤ 2 ^ (s.high + 1)
  | .thn a b => by
    have h1 := size_high a
    have h2 := size_high b
    have l1 : 2 ^ (a.high + 1) ≤ 2 ^ (max a.high b.high + 1) := Nat.pow_le_pow_right (by decide) (by omega)
    have l2 : 2 ^ (b.high + 1) ≤ 2 ^ (max a.high b.high + 1) := Nat.pow_le_pow_right (by decide) (by omega)
    simp only [Sh.size, Sh.high]
    rw [Nat.pow_succ 2 (max a.high b.high + 1)]
    omega
  | .or a b => by
    have h1 := size_high a
    have h2 := size_high b
    have l1 : 2 ^ (a.high + 1) ≤ 2 ^ (max a.high b.high + 1) := Nat.pow_le_pow_right (by decide) (by omega)
    have l2 : 2 ^ (b.high + 1) ≤ 2 ^ (max a.high b.high + 1) := Nat.pow_le_pow_right (by decide) (by omega)
    simp only [Sh.size, Sh.high]
    rw [Nat.pow_succ 2 (max a.high b.high + 1)]
    omega
  | .and a b => by
    have h1 := size_high a
    have h2 := size_high b
    have l1 : 2 ^ (a.high + 1) ≤ 2 ^ (max a.high b.high + 1) := Nat.pow_le_pow_right (by decide) (by omega)
    have l2 : 2 ^ (b.high + 1) ≤ 2 ^ (max a.high b.high + 1) := Nat.pow_le_pow_right (by decide) (by omega)
    simp only [Sh.size, Sh.high]
    rw [Nat.pow_succ 2 (max a.high b.high + 1)]
    omega
  | .not a => by
    have h1 := size_high a
    simp only [Sh.size, Sh.high]
    rw [Nat.pow_succ 2 (a.high + 1)]
    omega
  | .many a => by
    have h1 := size_high a
    simp only [Sh.size, Sh.high]
    rw [Nat.pow_succ 2 (a.high + 1)]
    omega
  | .none => by simp [Sh.size, Sh.high]
  | .empty => by simp [Sh.size, Sh.high]
  | .signs _ => by simp [Sh.size, Sh.high]
theorem size_le {s : Sh} {n : Nat} (h : s.high ≤ n) : s.size + 1 ≤ 2 ^ (n + 1) := Nat.le_trans (size_high s) (Nat.pow_le_pow_right (by decide) (by omega))
end K81
end
section
set_option maxRecDepth 100000
set_option maxHeartbeats 4000000
namespace K81
open PySem PySem.Spec PyProof.Rows L2 TK
noncomputable def wrL : Sh → List Nat
  | .none => [123, 125]
  | .empty => [40, 41]
  | .signs s => if s.length = 1 then s.cps.toList else 91 :: (s.cps.toList ++ [93])
  | .not a => 33 :: wrL a
  | .many a => 42 :: wrL a
  | .thn a b => 40 :: (wrL a ++ 32 :: (wrL b ++ [41]))
  | .or a b => 40 :: (wrL a ++ 124 :: (wrL b ++ [41]))
  | .and a b => 40 :: (wrL a ++ 38 :: (wrL b ++ [41]))
theorem sg_len {s : Str} (h : s ∈ sgList) : 1 ≤ s.length ∧ s.length ≤ 4 := (by decide +kernel : ∀ s ∈ sgList, 1 ≤ s.length ∧ s.length ≤ 4) s h
theorem len_cps (s : Str) : s.cps.toList.length = s.length := by simp [Str.length]
theorem wrL_len : ∀ s : Sh, okS s → (wrL s).length ≤ 6 * s.size
  | .none, _ => by decide
  | .empty, _ => by decide
  | .signs s, h => by
    have := sg_len (show s ∈ sgList from h)
    have e := len_cps s
    simp only [wrL]
    split
    · rw [e]; simp [Sh.size]; omega
    · rw [List.length_cons, List.length_append, e]; simp [Sh.size]; omega
  | .not a, h => by have := wrL_len a h; simp only [wrL, Sh.size, List.length_cons]; omega
  | .many a, h => by have := wrL_len a h; simp only [wrL, Sh.size, List.length_cons]; omega
  | .thn a b, h => by have h1 := wrL_len a h.1; have h2 := wrL_len b h.2; simp only [wrL, Sh.size, List.length_cons, List.length_append, List.length_nil]; omega
  | .or a b, h => by have h1 := wrL_len a h.1; have h2 := wrL_len b h.2; simp only [wrL, Sh.size, List.length_cons, List.length_append, List.length_nil]; omega
  | .and a b, h => by have h1 := wrL_len a h.1; have h2 := wrL_len b h.2; simp only [wrL, Sh.size, List.length_cons, List.length_append, List.length_nil]; omega
noncomputable def flds (t : Str) (p q : Int) : List (Str × D) := [("text", .str t), ("place", .int p), ("parts_left", .int q)]
section
variable {t : Str} {p q x : Int}
@[simp] theorem lk_text : (flds t p q).lookup (Str.ofString "text") = some (.str t) := rfl
@[simp] theorem lk_place : (flds t p q).lookup (Str.ofString "place") = some (.int p) := rfl
@[simp] theorem lk_parts : (flds t p q).lookup (Str.ofString "parts_left") = some (.int q) := rfl
@[simp] theorem lk_sign : NoF (flds t p q) (Str.ofString "sign_here") := rfl
@[simp] theorem lk_take : NoF (flds t p q) (Str.ofString "take_one_of") := rfl
@[simp] theorem lk_shape : NoF (flds t p q) (Str.ofString "read_shape") := rfl
@[simp] theorem lk_signs : NoF (flds t p q) (Str.ofString "read_signs") := rfl
@[simp] theorem lk_br : NoF (flds t p q) (Str.ofString "read_in_brackets") := rfl
@[simp] theorem pt_place : putFD (Str.ofString "place") (.int x) (flds t p q) = flds t x q := rfl
@[simp] theorem pt_parts : putFD (Str.ofString "parts_left") (.int x) (flds t p q) = flds t p x := rfl
@[simp] theorem pt_len : (flds t p q).length = 3 := rfl
@[simp] theorem pt_1 : putFD (Str.ofString "text") (.str t) [] = [(Str.ofString "text", .str t)] := rfl
@[simp] theorem pt_2 : putFD (Str.ofString "place") (.int p) [(Str.ofString "text", .str t)] = [(Str.ofString "text", .str t), (Str.ofString "place", .int p)] := rfl
@[simp] theorem pt_3 : putFD (Str.ofString "parts_left") (.int q) [(Str.ofString "text", .str t), (Str.ofString "place", .int p)] = flds t p q := rfl
@[simp] theorem sl_ms {a C : Addr} {d : D} {fs : List (Str × D)} : slotOf (.ms a C d fs) = .ins a C fs := rfl
end
noncomputable def msp_init : MSp := fun fs rs d fs' => ∃ t, fs = [] ∧ rs = [.st (.str t)] ∧ d = .non ∧ fs' = flds t 0 15
theorem rd_init {C : Addr} : ∀ a fs rs d fs', rs.length = 1 → msp_init fs rs d fs' → w_Reader___init__ C (EndsM a C d fs') (startD N_Reader___init__ (.ms a C .non fs :: rs)) := by
  rintro a fs rs d fs' _ ⟨t, rfl, rfl, rfl, rfl⟩
  simp [w_Reader___init__]
noncomputable def at1 (t : Str) (p : Nat) : Str := ⟨((t.cps.toList.drop p).take 1).toArray⟩
open Builtin Builtin.Str in
theorem idx_clip (l : Nat) (u n : Nat) (h : n ≤ u) : strSliceIndices (some (l : Int)) (some (u : Int)) 1 n = strSliceIndices (some (l : Int)) (some (n : Int)) 1 n := by
  unfold strSliceIndices
  have h1 : ¬ ((n : Int) < 0) := by omega
  have h2 : ¬ ((u : Int) < 0) := by omega
  have h3 : Min.min (u : Int) (n : Int) = n := by omega
  simp [h1, h2, h3]
theorem slice_1 {t : Str} {p : Nat} (h : p ≤ t.length) : Txt.slice t (some (p : Int)) (some ((p : Int) + 1)) = at1 t p := by
  apply str_of
  have e : (p : Int) + 1 = ((p + 1 : Nat) : Int) := by omega
  rw [e]
  by_cases hp : p < t.length
  · rw [slice_mid (by omega) (by omega)]
    simp [at1]
  · rw [slice_of (a := p) (b := t.length) (by omega) (Nat.le_refl _) (by rw [idx_clip _ _ _ (by omega)]; exact StrLaws.strSliceIndices_plain h (Nat.le_refl _))]
    have : t.length - p = 0 := by omega
    simp [at1, this]
    have := len_cps t
    simp at this
    omega
noncomputable def msp_sign : MSp := fun fs rs d fs' => ∃ (t : Str) (p : Nat) (q : Int), p ≤ t.length ∧ t.length ≤ 1000 ∧ fs = flds t p q ∧ rs = [] ∧ d = .str (at1 t p) ∧ fs' = fs
theorem z1000 {n : Nat} (h : n ≤ 1000) : n ≤ sizeLine := Nat.le_trans h (by decide)
theorem rd_sign {C : Addr} : ∀ a fs rs d fs', rs.length = 0 → msp_sign fs rs d fs' → w_Reader_sign_here C (EndsM a C d fs') (startD N_Reader_sign_here (.ms a C .non fs :: rs)) := by
  rintro a fs rs d fs' _ ⟨t, p, q, hp, ht, rfl, rfl, rfl, rfl⟩
  simp [w_Reader_sign_here, slice_1 hp, z1000 ht]
theorem at1_of {t : Str} {p c : Nat} {r : List Nat} (h : t.cps.toList.drop p = c :: r) : p < t.length ∧ at1 t p = ⟨#[c]⟩ := by
  constructor
  · have := congrArg List.length h
    rw [List.length_drop, len_cps] at this
    simp at this
    omega
  · unfold at1; rw [h]; rfl
theorem at1_nil {t : Str} {p : Nat} (h : t.cps.toList.drop p = []) : at1 t p = Str.ofString "" := by unfold at1; rw [h]; rfl
theorem o_inT {QB : Bool → Prop} {x y : Str} : inD true (.st (.str x)) (.st (.str y)) QB = QB (!inStr x y) := rfl
noncomputable def takeO (CN : Addr) (t : Str) (p : Nat) (q : Int) (sm : Str) : OutM := match t.cps.toList.drop p with
  | c :: _ => if inStr ⟨#[c]⟩ sm then .ok (.str ⟨#[c]⟩) (flds t ((p + 1 : Nat) : Int) q) else .ex CN
  | [] => .ex CN
noncomputable def msp_take (CN : Addr) : MSpX := fun fs rs o => ∃ (t : Str) (p : Nat) (q : Int) (sm : Str), t.length ≤ 1000 ∧ p ≤ t.length ∧ fs = flds t p q ∧ rs = [.st (.str sm)] ∧ o = takeO CN t p q sm
theorem rd_take {C CN : Addr} : ∀ a fs rs o, rs.length = 1 → msp_take CN fs rs o → w_Reader_take_one_of C CN msp_sign (XEofM o) (EndsMO a C o) (startD N_Reader_take_one_of (.ms a C .non fs :: rs)) := by
  rintro a fs rs o _ ⟨t, p, q, sm, ht, hp, rfl, rfl, rfl⟩
  have pb : (0 : Int) ≤ (p : Int) ∧ (p : Int) ≤ 1100 := by omega
  simp [w_Reader_take_one_of]
  refine ⟨_, _, ⟨t, p, q, hp, ht, rfl, rfl, rfl, rfl⟩, ?_⟩
  unfold takeO
  cases h : t.cps.toList.drop p with
  | nil =>
    simp [at1_nil h, pb]
  | cons c r =>
    obtain ⟨h1, h2⟩ := at1_of h
    have ne : ¬ (⟨#[c]⟩ : Str) = Str.ofString "" := fun z => by
      have := congrArg (fun s : Str => s.cps.toList.length) z
      cases this
    rw [h2]
    by_cases hi : inStr ⟨#[c]⟩ sm = true
    · simp [ne, hi, o_inT]
    · simp [ne, hi, o_inT, pb]
noncomputable def oneSigns : List Str := ["0", "1", "a", "b"]
theorem sgn_all : sgnD "01ab" = oneSigns.map D.str := by rfl
theorem comp_signs (x : Str) : ∀ (l : List Str) (o : Option Sl) (Q : List D → Prop), Q ((l.filter fun s => inStr s x).map D.str) → compW (gNm 0) (wOp (inD false) (wV 0) (wV 1)) (wFz (wV 0)) (l.map D.str) [o, some (.dat (.str x))] Q
  | [], o, Q, h => h
  | s :: r, o, Q, h => by
    simp only [List.map_cons, compW]
    by_cases hs : inStr s x = true
    · simp [hs] at h ⊢
      exact comp_signs x r _ _ h
    · simp only [Bool.not_eq_true] at hs
      simp [hs] at h ⊢
      exact comp_signs x r _ _ h
noncomputable def signsF (x : Str) : Str := Txt.join "" (oneSigns.filter fun s => inStr s x)
theorem signs_fit (x : Str) : ((oneSigns.filter fun s => inStr s x).map (·.length)).sum + (oneSigns.filter fun s => inStr s x).length * (Str.ofString "").length ≤ 16777216 := by
  have h1 := sum_one (oneSigns.filter fun s => inStr s x) fun s hs => by
    have := (List.mem_filter.mp hs).1
    simp only [oneSigns, List.mem_cons, List.not_mem_nil, or_false] at this
    rcases this with rfl | rfl | rfl | rfl <;> decide
  have h2 := List.length_filter_le (fun s => inStr s x) oneSigns
  have h3 : oneSigns.length = 4 := rfl
  have h4 : (Str.ofString "").length = 0 := rfl
  rw [h4]
  omega
noncomputable def sp_signs_in : DSp := fun rs r => ∃ x, rs = [.st (.str x)] ∧ r = .st (.str (signsF x))
theorem rd_signs_in : ∀ rs r, rs.length = 1 → sp_signs_in rs r → w_signs_in (Ends1 r) (startD N_signs_in rs) := by
  rintro rs r _ ⟨x, rfl, rfl⟩
  have hz : (oneSigns.map D.str).length ≤ sizeLine := by decide
  simp only [w_signs_in, s_ret, s_join, s_con, s_comp, s_jStr]
  refine ⟨_, rfl, _, rfl, by rw [sgn_all]; exact hz, ?_⟩
  rw [sgn_all]
  refine comp_signs x oneSigns none _ ?_
  exact ⟨_, _, rfl, strsOf_map _, signs_fit x, rfl⟩
noncomputable def areSigns : D → Bool
  | .str x => x != "" && x == signsF x
  | _ => false
noncomputable def sp_are_signs : DSp := fun rs r => ∃ d, rs = [.st d] ∧ r = .st (.bl (areSigns d))
theorem rd_are_signs : ∀ rs r, rs.length = 1 → sp_are_signs rs r → w_are_signs sp_signs_in (Ends1 r) (startD N_are_signs rs) := by
  rintro rs r _ ⟨d, rfl, rfl⟩
  cases d with
  | str x =>
    simp [w_are_signs, isiB, areSigns, sp_signs_in]
    by_cases h : x = ""
    · simp [h, bne]
    · have h2 : (x == Str.ofString "") = false := by simpa using h
      simp [h, h2, bne]
  | non => simp [w_are_signs, isiB, areSigns]
  | bl b => simp [w_are_signs, isiB, areSigns]
  | int b => simp [w_are_signs, isiB, areSigns]
  | tup b => simp [w_are_signs, isiB, areSigns]
  | lst b => simp [w_are_signs, isiB, areSigns]
theorem sg_are {s : Str} (h : s ∈ sgList) : areSigns (.str s) = true := (by decide +kernel : ∀ s ∈ sgList, areSigns (.str s) = true) s h
theorem sg_no {s : Str} (h : s ∈ sgList) : ∀ c ∈ s.cps.toList, c ≠ 93 := (by decide +kernel : ∀ s ∈ sgList, ∀ c ∈ s.cps.toList, c ≠ 93) s h
theorem find_br {t : Str} {p : Nat} {s r : List Nat} (h : t.cps.toList.drop p = s ++ 93 :: r) (hs : ∀ c ∈ s, c ≠ 93) : Txt.find3 t "]" (p : Int) = ((p + s.length : Nat) : Int) := by
  have hl : p + s.length < t.length := by
    have := congrArg List.length h
    rw [List.length_drop, len_cps] at this
    simp at this
    omega
  have hp : fromIndex t.length (p : Int) = p := by
    unfold fromIndex
    split <;> omega
  have at_ : ∀ k, t.cps.toList[p + k]? = (s ++ 93 :: r)[k]? := fun k => by rw [← h, List.getElem?_drop]
  have e93 : (Str.ofString "]") = ⟨#[93]⟩ := rfl
  rw [e93]
  rcases StrLaws.find3_spec t 93 (p : Int) with ⟨_, hn⟩ | ⟨k, hk, h1, h2, h3, h4⟩
  · exfalso
    refine hn (p + s.length) (by omega) hl (StrLaws.getD_of_getElem? ?_)
    rw [at_]; simp
  · rw [hk]
    rw [hp] at h1 h4
    have : k = p + s.length := by
      rcases Nat.lt_trichotomy k (p + s.length) with hlt | he | hgt
      · exfalso
        have hh := StrLaws.getElem?_of_getD h2 h3
        obtain ⟨j, rfl⟩ : ∃ j, k = p + j := ⟨k - p, by omega⟩
        rw [at_, List.getElem?_append_left (by omega)] at hh
        exact hs 93 (List.mem_of_getElem? hh) rfl
      · exact he
      · exfalso
        refine h4 (p + s.length) (by omega) hgt (StrLaws.getD_of_getElem? ?_)
        rw [at_]; simp
    rw [this]
theorem dep_le {s : Sh} (h : s.high < 50) : (s.toD).depth ≤ 59 := by
  have : ∀ s : Sh, (s.toD).depth ≤ s.high + 1 := by
    intro s
    induction s <;> simp [Sh.toD, D.depth, D.depths, Sh.high] <;> omega
  have := this s
  omega
theorem drop_next {L : List Nat} {p : Nat} {a r : List Nat} (h : L.drop p = a ++ r) : L.drop (p + a.length) = r := by
  rw [← List.drop_drop, h, List.drop_left]
theorem chr_ne {c d : Nat} (h : c ≠ d) : ¬ ((⟨#[c]⟩ : Str) = ⟨#[d]⟩) := fun z => h (by
  have := congrArg (fun s : Str => s.cps.toList) z
  simpa using this)
end K81
end
section
set_option maxRecDepth 100000
set_option maxHeartbeats 4000000
namespace K81
open PySem PySem.Spec PyProof.Rows L2 TK
noncomputable def cutBr : List Nat → Option (List Nat × List Nat)
  | [] => none
  | c :: r => if c = 93 then some ([], r) else (cutBr r).map fun p => (c :: p.1, p.2)
theorem cutBr_some : ∀ {L s r : List Nat}, cutBr L = some (s, r) → L = s ++ 93 :: r ∧ ∀ c ∈ s, c ≠ 93
  | [], s, r, h => by cases h
  | c :: L, s, r, h => by
    unfold cutBr at h
    by_cases hc : c = 93
    · rw [if_pos hc] at h; cases h; exact ⟨by rw [hc]; rfl, by simp⟩
    · rw [if_neg hc] at h
      cases e : cutBr L with
      | none => rw [e] at h; cases h
      | some p =>
        rw [e] at h
        cases h
        obtain ⟨h1, h2⟩ := cutBr_some (L := L) (s := p.1) (r := p.2) e
        refine ⟨by rw [List.cons_append, ← h1], fun x hx => ?_⟩
        rcases List.mem_cons.mp hx with rfl | hx
        · exact hc
        · exact h2 x hx
theorem cutBr_none : ∀ {L : List Nat}, cutBr L = none → ∀ c ∈ L, c ≠ 93
  | [], _ => by simp
  | c :: L, h => by
    unfold cutBr at h
    by_cases hc : c = 93
    · rw [if_pos hc] at h; cases h
    · rw [if_neg hc] at h
      cases e : cutBr L with
      | none =>
        intro x hx
        rcases List.mem_cons.mp hx with rfl | hx
        · exact hc
        · exact cutBr_none e x hx
      | some p => rw [e] at h; cases h
theorem cutBr_of : ∀ {s r : List Nat}, (∀ c ∈ s, c ≠ 93) → cutBr (s ++ 93 :: r) = some (s, r)
  | [], r, _ => by simp [cutBr]
  | c :: s, r, h => by
    have h1 := h c List.mem_cons_self
    rw [List.cons_append, cutBr, if_neg h1, cutBr_of fun x hx => h x (List.mem_cons_of_mem _ hx)]
    rfl
noncomputable def mkS (l : List Nat) : Str := ⟨l.toArray⟩
theorem mkS_cps (l : List Nat) : (mkS l).cps.toList = l := rfl
theorem mkS_len (l : List Nat) : (mkS l).length = l.length := by rw [← len_cps]; rfl
noncomputable def sgOk (s : List Nat) : Bool := decide (2 ≤ s.length) && areSigns (.str (mkS s))
noncomputable def sgF (L : List Nat) (q : Nat) : Option (Sh × List Nat × Nat) := match cutBr L with
  | some (s, r) => if sgOk s then some (.signs (mkS s), r, q) else none
  | none => none
noncomputable def outS (CN : Addr) (t : Str) : Option (Sh × List Nat × Nat) → OutM
  | some (s, r, q) => .ok s.toD (flds t ((t.length - r.length : Nat) : Int) (q : Int))
  | none => .ex CN
theorem find_none {t : Str} {p : Nat} (hp : p ≤ t.length) (h : ∀ c ∈ t.cps.toList.drop p, c ≠ 93) : Txt.find3 t "]" (p : Int) = -1 := by
  have e93 : (Str.ofString "]") = ⟨#[93]⟩ := rfl
  rw [e93]
  rcases StrLaws.find3_spec t 93 (p : Int) with ⟨h1, _⟩ | ⟨k, hk, h1, h2, h3, h4⟩
  · exact h1
  · exfalso
    have hp' : fromIndex t.length (p : Int) = p := by unfold fromIndex; split <;> omega
    rw [hp'] at h1
    have hh := StrLaws.getElem?_of_getD h2 h3
    obtain ⟨j, rfl⟩ : ∃ j, k = p + j := ⟨k - p, by omega⟩
    rw [← List.getElem?_drop] at hh
    exact h 93 (List.mem_of_getElem? hh) rfl
theorem slice_0 {t : Str} {p : Nat} (h : p ≤ t.length) : Txt.slice t (some (p : Int)) (some (p : Int)) = Str.ofString "" := by
  apply str_of
  rw [slice_mid (Nat.le_refl _) h]
  simp
  rfl
noncomputable def msp_signs (CN : Addr) : MSpX := fun fs rs o => ∃ (t : Str) (p q : Nat), t.length ≤ 1000 ∧ p ≤ t.length ∧ fs = flds t p q ∧ rs = [] ∧ o = outS CN t (sgF (t.cps.toList.drop p) q)
theorem rd_signs {C CN : Addr} : ∀ a fs rs o, rs.length = 0 → msp_signs CN fs rs o → w_Reader_read_signs C CN sp_are_signs (XEofM o) (EndsMO a C o) (startD N_Reader_read_signs (.ms a C .non fs :: rs)) := by
  rintro a fs rs o _ ⟨t, p, q, ht, hp, rfl, rfl, rfl⟩
  have pb : (0 : Int) ≤ (p : Int) ∧ (p : Int) ≤ 1100 := by omega
  have z2 : (2 : Nat) ≤ sizeLine := by decide
  simp only [w_Reader_read_signs, s_seq, s_set, s_find3, s_fld, s_con, o_start]
  simp
  cases hc : cutBr (t.cps.toList.drop p) with
  | none =>
    rw [find_none hp (cutBr_none hc)]
    have e0 : (if (-1 : Int) < (p : Int) then (p : Int) else -1) = (p : Int) := if_pos (by omega)
    have l0 : (Str.ofString "").length = 0 := rfl
    simp only [sgF, hc, outS]
    rw [e0, slice_0 hp, l0]
    simp [z1000 ht, pb]
  | some sr =>
    obtain ⟨s, r⟩ := sr
    obtain ⟨h, hs⟩ := cutBr_some hc
    have hl : p + s.length < t.length := by
      have := congrArg List.length h
      rw [List.length_drop, len_cps] at this
      simp at this
      omega
    have hr : t.length - r.length = p + s.length + 1 := by
      have := congrArg List.length h
      rw [List.length_drop, len_cps] at this
      simp at this
      omega
    have fb := find_br h hs
    have mx : (if ((p + s.length : Nat) : Int) < (p : Int) then (p : Int) else ((p + s.length : Nat) : Int)) = ((p + s.length : Nat) : Int) := if_neg (by omega)
    have sl : Txt.slice t (some (p : Int)) (some ((p + s.length : Nat) : Int)) = mkS s := by
      apply str_of
      rw [slice_mid (by omega) (by omega), h, Nat.add_sub_cancel_left, List.take_left]
      rfl
    have e1 : ((p + s.length : Nat) : Int) + 1 = ((p + s.length + 1 : Nat) : Int) := by omega
    rw [fb, mx, sl]
    simp only [sgF, hc, sgOk]
    by_cases h2 : 2 ≤ s.length
    · have n2 : ¬ ((s.length : Int) < 2) := by omega
      by_cases ha : areSigns (.str (mkS s)) = true
      · simp [ha, h2, n2, outS, mkS_len, z1000 ht, z1000 (show s.length ≤ 1000 by omega)]
        refine ⟨_, ⟨_, rfl, rfl⟩, ?_⟩
        simp [ha, z2, Sh.toD, hr]
      · simp [ha, h2, n2, outS, mkS_len, z1000 ht, z1000 (show s.length ≤ 1000 by omega)]
        refine ⟨_, ⟨_, rfl, rfl⟩, ?_⟩
        simp [ha, pb]
    · have n2 : ((s.length : Int) < 2) := by omega
      simp [h2, n2, outS, mkS_len, z1000 ht, z1000 (show s.length ≤ 1000 by omega), pb]
end K81
end
section
set_option maxRecDepth 100000
set_option maxHeartbeats 4000000
namespace K81
open PySem PySem.Spec PyProof.Rows L2 TK
noncomputable abbrev Rd := List Nat → Nat → Option (Sh × List Nat × Nat)
noncomputable def mkW : Nat → Option (Sh → Sh → Sh)
  | 32 => some .thn
  | 124 => some .or
  | 38 => some .and
  | _ => none
noncomputable def closeF (w : Sh → Sh → Sh) (a : Sh) : Option (Sh × List Nat × Nat) → Option (Sh × List Nat × Nat)
  | some (b, 41 :: r, q) => some (w a b, r, q)
  | _ => none
noncomputable def betwF (f : Rd) : Option (Sh × List Nat × Nat) → Option (Sh × List Nat × Nat)
  | some (a, c :: r, q) => match mkW c with
    | some w => closeF w a (f r q)
    | none => none
  | _ => none
noncomputable def brF (f : Rd) (L : List Nat) (q : Nat) : Option (Sh × List Nat × Nat) := if L.head? = some 41 then some (.empty, L.tail, q) else betwF f (f L q)
noncomputable def oneF (w : Sh → Sh) : Option (Sh × List Nat × Nat) → Option (Sh × List Nat × Nat)
  | some (a, r, q) => some (w a, r, q)
  | none => none
noncomputable def shF (f : Rd) : Rd := fun L q => if q = 0 then none else match L with
  | [] => none
  | c :: r =>
    if c = 33 then oneF .not (f r (q - 1)) else if c = 42 then oneF .many (f r (q - 1))
    else if c = 123 then (if r.head? = some 125 then some (.none, r.tail, q - 1) else none)
    else if c = 91 then sgF r (q - 1) else if c = 40 then brF f r (q - 1)
    else if c = 48 ∨ c = 49 ∨ c = 97 ∨ c = 98 then some (.signs (mkS [c]), r, q - 1) else none
noncomputable def rdS : Nat → Rd
  | 0 => fun _ _ => none
  | k + 1 => shF (rdS k)
noncomputable def Sound (f : Rd) : Prop := ∀ L q s r q', f L q = some (s, r, q') → okS s ∧ L = wrL s ++ r ∧ q' + s.size = q
theorem head_cons {L : List Nat} {c : Nat} (h : L.head? = some c) : L = c :: L.tail := by
  cases L with
  | nil => cases h
  | cons x r => cases h; rfl
theorem sg_are_list : ∀ s : Str, areSigns (.str s) = true → s ∈ sgList := by
  intro s h
  unfold areSigns at h
  simp only [Bool.and_eq_true, bne_iff_ne, ne_eq, beq_iff_eq] at h
  obtain ⟨h1, h2⟩ := h
  have hsub : (oneSigns.filter fun x => inStr x s).Sublist (["0", "1", "a", "b"] : List Str) := List.filter_sublist
  rcases sg_sub hsub with h3 | h3
  · exact absurd (h2.trans h3) h1
  · rw [h2]; exact h3
theorem sgF_sound {L : List Nat} {q : Nat} {s : Sh} {r : List Nat} {q' : Nat} (h : sgF L q = some (s, r, q')) : okS s ∧ 91 :: L = wrL s ++ r ∧ q' = q ∧ s.size = 1 := by
  unfold sgF at h
  cases hc : cutBr L with
  | none => rw [hc] at h; cases h
  | some p =>
    obtain ⟨x, y⟩ := p
    rw [hc] at h
    dsimp only at h
    split at h
    · rename_i hk
      cases h
      unfold sgOk at hk
      simp only [Bool.and_eq_true, decide_eq_true_eq] at hk
      obtain ⟨e1, e2⟩ := cutBr_some hc
      refine ⟨sg_are_list _ hk.2, ?_, rfl, rfl⟩
      have hl : ¬ (mkS x).length = 1 := by rw [mkS_len]; omega
      rw [e1, wrL, if_neg hl, mkS_cps]
      simp
    · cases h
theorem sound_sh {f : Rd} (hf : Sound f) : Sound (shF f) := by
  intro L q s r q' h
  unfold shF at h
  split at h
  · cases h
  rename_i hq
  cases L with
  | nil => cases h
  | cons c L =>
    dsimp only at h
    split at h
    · rename_i hc
      cases e : f L (q - 1) with
      | none => rw [e] at h; cases h
      | some x =>
        obtain ⟨a, y, z⟩ := x
        rw [e] at h; cases h
        obtain ⟨h1, h2, h3⟩ := hf _ _ _ _ _ e
        exact ⟨h1, by rw [h2, hc]; rfl, by simp only [Sh.size]; omega⟩
    split at h
    · rename_i hc
      cases e : f L (q - 1) with
      | none => rw [e] at h; cases h
      | some x =>
        obtain ⟨a, y, z⟩ := x
        rw [e] at h; cases h
        obtain ⟨h1, h2, h3⟩ := hf _ _ _ _ _ e
        exact ⟨h1, by rw [h2, hc]; rfl, by simp only [Sh.size]; omega⟩
    split at h
    · rename_i hc
      split at h
      · rename_i hd
        cases h
        exact ⟨trivial, by rw [hc]; conv => lhs; rw [head_cons hd]
                           rfl, by simp only [Sh.size]; omega⟩
      · cases h
    split at h
    · rename_i hc
      obtain ⟨h1, h2, h3, h4⟩ := sgF_sound h
      exact ⟨h1, by rw [hc]; exact h2, by omega⟩
    split at h
    · rename_i hc
      unfold brF at h
      split at h
      · rename_i hd
        cases h
        exact ⟨trivial, by rw [hc]; conv => lhs; rw [head_cons hd]
                           rfl, by simp only [Sh.size]; omega⟩
      · cases e : f L (q - 1) with
        | none => rw [e] at h; cases h
        | some x =>
          obtain ⟨a, y, z⟩ := x
          rw [e] at h
          obtain ⟨h1, h2, h3⟩ := hf _ _ _ _ _ e
          cases y with
          | nil => cases h
          | cons d y =>
            have h : (match mkW d with | some w => closeF w a (f y z) | none => none) = some (s, r, q') := h
            cases ew : mkW d with
            | none => rw [ew] at h; cases h
            | some w =>
              rw [ew] at h
              have h : closeF w a (f y z) = some (s, r, q') := h
              cases e2 : f y z with
              | none => rw [e2] at h; cases h
              | some x2 =>
                obtain ⟨b, y2, z2⟩ := x2
                rw [e2] at h
                obtain ⟨g1, g2, g3⟩ := hf _ _ _ _ _ e2
                cases y2 with
                | nil => cases h
                | cons d2 y2 =>
                  unfold closeF at h
                  split at h
                  · rename_i b' r' q2 heq
                    cases heq
                    cases h
                    have hw : (d = 32 ∧ w = Sh.thn) ∨ (d = 124 ∧ w = Sh.or) ∨ (d = 38 ∧ w = Sh.and) := by
                      unfold mkW at ew
                      split at ew
                      · cases ew; exact .inl ⟨rfl, rfl⟩
                      · cases ew; exact .inr (.inl ⟨rfl, rfl⟩)
                      · cases ew; exact .inr (.inr ⟨rfl, rfl⟩)
                      · cases ew
                    rcases hw with ⟨rfl, rfl⟩ | ⟨rfl, rfl⟩ | ⟨rfl, rfl⟩
                    · exact ⟨⟨h1, g1⟩, by rw [hc, h2, g2]; simp [wrL], by simp only [Sh.size]; omega⟩
                    · exact ⟨⟨h1, g1⟩, by rw [hc, h2, g2]; simp [wrL], by simp only [Sh.size]; omega⟩
                    · exact ⟨⟨h1, g1⟩, by rw [hc, h2, g2]; simp [wrL], by simp only [Sh.size]; omega⟩
                  · cases h
    split at h
    · rename_i hc
      cases h
      have hin : mkS [c] ∈ sgList := by
        rcases hc with rfl | rfl | rfl | rfl <;> decide +kernel
      have hl : (mkS [c]).length = 1 := rfl
      exact ⟨hin, by rw [wrL, if_pos hl, mkS_cps]; rfl, by simp only [Sh.size]; omega⟩
    · cases h
theorem sound_rd : ∀ k, Sound (rdS k)
  | 0 => fun L q s r q' h => by cases h
  | k + 1 => sound_sh (sound_rd k)
end K81
end
section
set_option maxRecDepth 100000
set_option maxHeartbeats 4000000
namespace K81
open PySem PySem.Spec PyProof.Rows L2 TK
theorem inStr_one (c : Nat) (y : Str) : inStr ⟨#[c]⟩ y = decide (c ∈ y.cps.toList) := by
  unfold inStr
  rcases StrLaws.occ_head_from y ⟨#[c]⟩ 0 1 (Nat.le_refl 1) with ⟨h0, hn⟩ | ⟨i, r, h0, _, hk, _⟩
  · rw [h0]
    refine (decide_eq_false fun hm => ?_).symm
    obtain ⟨i, hi, he⟩ := List.mem_iff_getElem.mp hm
    exact hn i (Nat.zero_le _) ((StrLaws.subAt_one y c i).mpr (by rw [List.getElem?_eq_getElem hi, he]))
  · rw [h0]
    have hm := (StrLaws.subAt_one y c i).mp hk
    exact (decide_eq_true (List.mem_of_getElem? hm)).symm
theorem out_pos {t : Str} {p q : Nat} {s : Sh} {r : List Nat} {q' : Nat} {f : Rd} (hf : Sound f) (hp : p ≤ t.length) (h : f (t.cps.toList.drop p) q = some (s, r, q')) :
    t.length - r.length = p + (wrL s).length ∧ t.cps.toList.drop (t.length - r.length) = r ∧ t.length - r.length ≤ t.length ∧ q' + s.size = q ∧ okS s := by
  obtain ⟨h1, h2, h3⟩ := hf _ _ _ _ _ h
  have hl := congrArg List.length h2
  rw [List.length_drop, len_cps, List.length_append] at hl
  have e : t.length - r.length = p + (wrL s).length := by omega
  exact ⟨e, by rw [e]; exact drop_next h2, by omega, h3, h1⟩
noncomputable def msp_shape (CN : Addr) (k : Nat) : MSpX := fun fs rs o => ∃ (t : Str) (p q : Nat), t.length ≤ 1000 ∧ p ≤ t.length ∧ q < k ∧ fs = flds t p q ∧ rs = [] ∧ o = outS CN t (rdS k (t.cps.toList.drop p) q)
noncomputable def msp_br (CN : Addr) (k : Nat) : MSpX := fun fs rs o => ∃ (t : Str) (p q : Nat), t.length ≤ 1000 ∧ p ≤ t.length ∧ q < k ∧ fs = flds t p q ∧ rs = [] ∧ o = outS CN t (brF (rdS k) (t.cps.toList.drop p) q)
theorem betw_in (c : Nat) : inStr ⟨#[c]⟩ " |&" = (mkW c).isSome := by
  rw [inStr_one]
  have e : (Str.ofString " |&").cps.toList = [32, 124, 38] := by decide +kernel
  rw [e]
  unfold mkW
  split <;> first | decide | (rename_i h1 h2 h3; simp; exact ⟨h1, h2, h3⟩)
noncomputable def wordN : Nat → Str
  | 32 => "then"
  | 124 => "or"
  | _ => "and"
theorem betw_word {c : Nat} {w : Sh → Sh → Sh} (h : mkW c = some w) : lkc wbKV ⟨#[c]⟩ = some (.inr (wordN c)) ∧ ∀ a b, (w a b).toD = .tup [.str (wordN c), a.toD, b.toD] := by
  unfold mkW at h
  split at h
  · cases h; exact ⟨by decide +kernel, fun a b => rfl⟩
  · cases h; exact ⟨by decide +kernel, fun a b => rfl⟩
  · cases h; exact ⟨by decide +kernel, fun a b => rfl⟩
  · cases h
section
variable {C CN : Addr}
theorem rd_br (k : Nat) : ∀ a fs rs o, rs.length = 0 → msp_br CN k fs rs o → w_Reader_read_in_brackets C msp_sign (msp_shape CN k) (msp_take CN) (XEofM o) (EndsMO a C o) (startD N_Reader_read_in_brackets (.ms a C .non fs :: rs)) := by
  rintro ad fs rs o _ ⟨t, p, q, ht, hp, hq, rfl, rfl, ho⟩
  have z1 : (1 : Nat) ≤ sizeLine := by decide
  have z3 : (3 : Nat) ≤ sizeLine := by decide
  simp [w_Reader_read_in_brackets]
  refine ⟨_, _, ⟨t, p, q, hp, ht, rfl, rfl, rfl, rfl⟩, ?_⟩
  by_cases h41 : (t.cps.toList.drop p).head? = some 41
  · have hd := head_cons h41
    obtain ⟨l0, a0⟩ := at1_of hd
    have e : at1 t p = Str.ofString ")" := a0
    have hl := congrArg List.length hd
    rw [List.length_drop, len_cps, List.length_cons] at hl
    have e2 : t.length - (t.cps.toList.drop p).tail.length = p + 1 := by omega
    rw [brF, if_pos h41, outS, e2] at ho
    subst ho
    simp [e, z1, Sh.toD]
  · rw [brF, if_neg h41] at ho
    have ne : ¬ at1 t p = Str.ofString ")" := by
      cases hdr : t.cps.toList.drop p with
      | nil => rw [at1_nil hdr]; decide +kernel
      | cons c r =>
        rw [(at1_of hdr).2]
        rw [hdr] at h41
        exact chr_ne (fun z => h41 (by rw [z]; rfl))
    simp [ne]
    refine ⟨_, ⟨t, p, q, ht, hp, hq, rfl, rfl, rfl⟩, ?_⟩
    cases e1 : rdS k (t.cps.toList.drop p) q with
    | none =>
      rw [e1] at ho
      subst ho
      simp [outS, betwF]
    | some x =>
      obtain ⟨a, r1, q1⟩ := x
      obtain ⟨p1, p2, p3, p4, p5⟩ := out_pos (sound_rd k) hp e1
      rw [e1] at ho
      generalize hP : t.length - r1.length = P1 at p1 p2 p3
      simp [outS, hP]
      refine ⟨_, ⟨t, P1, _, _, ht, p3, rfl, rfl, rfl⟩, ?_⟩
      cases r1 with
      | nil =>
        subst ho
        simp [takeO, p2, betwF, outS]
      | cons c r2 =>
        cases ew : mkW c with
        | none =>
          have : betwF (rdS k) (some (a, c :: r2, q1)) = none := by simp [betwF, ew]
          rw [this] at ho
          subst ho
          have hb := betw_in c
          rw [ew] at hb
          simp [takeO, p2, hb, outS]
        | some w =>
          have hbt : betwF (rdS k) (some (a, c :: r2, q1)) = closeF w a (rdS k r2 q1) := by simp [betwF, ew]
          rw [hbt] at ho
          have hb := betw_in c
          rw [ew] at hb
          obtain ⟨w1, w2⟩ := betw_word ew
          have p6 : t.cps.toList.drop (P1 + 1) = r2 := by rw [← List.drop_drop, p2]; rfl
          have p7 : P1 + 1 ≤ t.length := (at1_of p2).1
          simp [takeO, p2, hb, w1, cD]
          refine ⟨_, ⟨t, P1 + 1, q1, ht, p7, by omega, by simp, rfl, rfl⟩, ?_⟩
          rw [p6]
          cases e2 : rdS k r2 q1 with
          | none =>
            rw [e2] at ho
            subst ho
            simp [outS, closeF]
          | some x2 =>
            obtain ⟨b, r3, q2⟩ := x2
            obtain ⟨s1, s2, s3, s4, s5⟩ := out_pos (q := q1) (sound_rd k) p7 (by rw [p6]; exact e2)
            rw [e2] at ho
            generalize hP3 : t.length - r3.length = P3 at s1 s2 s3
            simp [outS, hP3]
            refine ⟨_, ⟨t, P3, _, _, ht, s3, rfl, rfl, rfl⟩, ?_⟩
            cases r3 with
            | nil =>
              subst ho
              simp [takeO, s2, closeF, outS]
            | cons d r4 =>
              by_cases hd : d = 41
              · subst hd
                have hin : inStr ⟨#[41]⟩ (Str.ofString ")") = true := by decide +kernel
                have hlen : t.length - r4.length = P3 + 1 := by
                  have := congrArg List.length s2
                  rw [List.length_drop, len_cps, List.length_cons] at this
                  omega
                have : closeF w a (some (b, 41 :: r4, q2)) = some (w a b, r4, q2) := rfl
                rw [this, outS, hlen] at ho
                subst ho
                simp [takeO, s2, hin, z3, w2]
              · have : closeF w a (some (b, d :: r4, q2)) = none := by
                  unfold closeF
                  split
                  · rename_i heq; cases heq; exact absurd rfl hd
                  · rfl
                rw [this, outS] at ho
                subst ho
                have hin : inStr ⟨#[d]⟩ (Str.ofString ")") = false := by
                  rw [inStr_one]
                  have e : (Str.ofString ")").cps.toList = [41] := by decide +kernel
                  rw [e]
                  simp [hd]
                simp [takeO, s2, hin]
end
end K81
end
section
set_option maxRecDepth 100000
set_option maxHeartbeats 4000000
namespace K81
open PySem PySem.Spec PyProof.Rows L2 TK
theorem lead_in (c : Nat) : inStr ⟨#[c]⟩ "{([!*01ab" = decide (c ∈ [123, 40, 91, 33, 42, 48, 49, 97, 98]) := by
  rw [inStr_one]
  have e : (Str.ofString "{([!*01ab").cps.toList = [123, 40, 91, 33, 42, 48, 49, 97, 98] := by decide +kernel
  rw [e]
section
variable {C CN : Addr}
theorem sh_first {W : WS} {XE : Addr → Prop} {E : DEnds} {ad : Addr} {t : Str} {p q : Nat} (ht : t.length ≤ 1000) (hp : p ≤ t.length) (h0 : q = 0 → XE CN) (hn : 0 < q → t.cps.toList.drop p = [] → XE CN) (hb : ∀ c r, 0 < q → t.cps.toList.drop p = c :: r → c ∉ [123, 40, 91, 33, 42, 48, 49, 97, 98] → XE CN)
    (hx : ∀ c r, 0 < q → t.cps.toList.drop p = c :: r → c ∈ [123, 40, 91, 33, 42, 48, 49, 97, 98] → W E [some (.ins ad C (flds t ((p + 1 : Nat) : Int) ((q - 1 : Nat) : Int))), some (.dat (.str ⟨#[c]⟩))]) :
    (wSeq (wIfS (wOp (eqD 60 false) (wFld C 0 "parts_left") (wC (.int 0))) (wRaise XE CN (wC (.str "the shape has too many parts"))) wNext) (wSeq (wFldAug C 0 "parts_left" (fun i j => i - j) (wC (.int 1))) (wSeq (wSetM 1 (mMethX XE C 0 "take_one_of" (msp_take CN) (wCons (wC (.str "{([!*01ab")) wNil))) W))) E (startD N_Reader_read_shape [.ms ad C .non (flds t p q)]) := by
  by_cases hq : q = 0
  · simp [hq, h0 hq]
  · have eq1 : (q : Int) - 1 = ((q - 1 : Nat) : Int) := by omega
    simp [hq]
    refine ⟨_, ⟨t, p, ((q : Int) - 1), _, ht, hp, rfl, rfl, rfl⟩, ?_⟩
    unfold takeO
    cases hd : t.cps.toList.drop p with
    | nil => exact hn (by omega) hd
    | cons c r =>
      have li := lead_in c
      by_cases hc : c ∈ [123, 40, 91, 33, 42, 48, 49, 97, 98]
      · rw [decide_eq_true hc] at li
        rw [eq1]
        dsimp only
        rw [if_pos li]
        exact hx c r (by omega) hd hc
      · rw [decide_eq_false hc] at li
        dsimp only
        rw [if_neg (by rw [li]; decide)]
        exact hb c r (by omega) hd hc
theorem shF_bad {f : Rd} {c : Nat} {r : List Nat} {q : Nat} (h : c ∉ [123, 40, 91, 33, 42, 48, 49, 97, 98]) : shF f (c :: r) q = none := by
  simp only [List.mem_cons, List.not_mem_nil, or_false, not_or] at h
  obtain ⟨h1, h2, h3, h4, h5, h6, h7, h8, h9⟩ := h
  simp [shF, h1, h2, h3, h4, h5, h6, h7, h8, h9]
theorem shF_q {f : Rd} {c q : Nat} {r : List Nat} (q0 : ¬ q = 0) : shF f (c :: r) q =
    if c = 33 then oneF .not (f r (q - 1)) else if c = 42 then oneF .many (f r (q - 1))
    else if c = 123 then (if r.head? = some 125 then some (.none, r.tail, q - 1) else none)
    else if c = 91 then sgF r (q - 1) else if c = 40 then brF f r (q - 1)
    else if c = 48 ∨ c = 49 ∨ c = 97 ∨ c = 98 then some (.signs (mkS [c]), r, q - 1) else none := if_neg q0
noncomputable def shW (C CN : Addr) (k : Nat) (XE : Addr → Prop) : WS := (wSeq (wIfS (wMinC waKV (wV 1)) (wRetM C (mTup (maCons (mOf (wDsub waKV (wV 1))) (maCons (mMeth0X XE C 0 "read_shape" (msp_shape CN k)) maNil)))) wNext) (wSeq (wIfS (wOp (eqD 60 false) (wV 1) (wC (.str "{"))) (wSeq (wExprM (mMethX XE C 0 "take_one_of" (msp_take CN) (wCons (wC (.str "}")) wNil))) (wRetM C (mOf (wTup (wCons (wFz (wC (.str "none"))) wNil))))) wNext) (wSeq (wIfS (wOp (eqD 60 false) (wV 1) (wC (.str "["))) (wRetM C (mMeth0X XE C 0 "read_signs" (msp_signs CN))) wNext) (wSeq (wIfS (wOp (eqD 60 false) (wV 1) (wC (.str "("))) (wRetM C (mMeth0X XE C 0 "read_in_brackets" (msp_br CN k))) wNext) (wRetM C (mOf (wTup (wCons (wFz (wC (.str "signs"))) (wCons (wFz (wV 1)) wNil)))))))))
theorem eq_2 {w u : Str} {o0 : Option Sl} {b : Bool} (hb : (w == u) = b) (Q : Bool → Prop) (h : Q b) : (wOp (eqD 60 false) (wV 1) (wC (.str u))) [o0, some (.dat (.str w))] Q := by
  simp [hb]
  exact h
section
variable {ad : Addr} {t x : Str} {p q k : Nat} {r : List Nat} {o : OutM}
noncomputable abbrev st2 (ad C : Addr) (t : Str) (p q : Nat) (x : Str) : DSt := [some (.ins ad C (flds t ((p + 1 : Nat) : Int) ((q - 1 : Nat) : Int))), some (.dat (.str x))]
theorem sh_one {w : Str} {mk : Sh → Sh} (ht : t.length ≤ 1000) (p7 : p + 1 ≤ t.length) (hq : q - 1 < k) (p6 : t.cps.toList.drop (p + 1) = r) (hl : lkc waKV x = some (.inr w)) (hm : ∀ a, (mk a).toD = .tup [.str w, a.toD]) (ho : o = outS CN t (oneF mk (rdS k r (q - 1)))) :
    shW C CN k (XEofM o) (EndsMO ad C o) (st2 ad C t p q x) := by
  refine ifY (fun Q h => by simp [hl]; exact h) ?_
  have z2 : (2 : Nat) ≤ sizeLine := by decide
  simp [hl, cD]
  refine ⟨_, ⟨t, p + 1, q - 1, ht, p7, hq, by simp, rfl, rfl⟩, ?_⟩
  rw [p6]
  cases e1 : rdS k r (q - 1) with
  | none => rw [e1] at ho; subst ho; simp [outS, oneF]
  | some y =>
    obtain ⟨a, r1, q1⟩ := y
    rw [e1] at ho
    subst ho
    simp [outS, oneF, z2, hm]
theorem sh_none (ht : t.length ≤ 1000) (p7 : p + 1 ≤ t.length) (p6 : t.cps.toList.drop (p + 1) = r) (hlen : t.length - r.length = p + 1) (ho : o = outS CN t (if r.head? = some 125 then some (.none, r.tail, q - 1) else none)) :
    shW C CN k (XEofM o) (EndsMO ad C o) (st2 ad C t p q (Str.ofString "{")) := by
  have l1 : lkc waKV (Str.ofString "{") = none := by decide +kernel
  have z1 : (1 : Nat) ≤ sizeLine := by decide
  refine ifN (fun Q h => by simp [l1]; exact h) (ifY (eq_2 (by decide +kernel)) ?_)
  simp
  refine ⟨_, ⟨t, p + 1, _, _, ht, p7, rfl, rfl, rfl⟩, ?_⟩
  unfold takeO
  rw [p6]
  cases r with
  | nil => subst ho; simp [outS]
  | cons d r2 =>
    have hin : inStr ⟨#[d]⟩ (Str.ofString "}") = decide (d = 125) := by
      rw [inStr_one]
      have e : (Str.ofString "}").cps.toList = [125] := by decide +kernel
      rw [e]; simp
    by_cases hdd : d = 125
    · subst hdd
      have hl2 : t.length - r2.length = p + 1 + 1 := by rw [List.length_cons] at hlen; omega
      subst ho
      simp [hin, outS, z1, Sh.toD, hl2]
    · subst ho
      simp [hin, hdd, outS]
theorem sh_br (ht : t.length ≤ 1000) (p7 : p + 1 ≤ t.length) (hq : q - 1 < k) (p6 : t.cps.toList.drop (p + 1) = r) (ho : o = outS CN t (brF (rdS k) r (q - 1))) :
    shW C CN k (XEofM o) (EndsMO ad C o) (st2 ad C t p q (Str.ofString "(")) := by
  have l1 : lkc waKV (Str.ofString "(") = none := by decide +kernel
  refine ifN (fun Q h => by simp [l1]; exact h) (ifN (eq_2 (by decide +kernel)) (ifN (eq_2 (by decide +kernel)) (ifY (eq_2 (by decide +kernel)) ?_)))
  simp
  refine ⟨_, ⟨t, p + 1, q - 1, ht, p7, hq, by simp, rfl, rfl⟩, ?_⟩
  rw [p6, ← ho]
  cases o with
  | ok d fs => simp
  | ex c => simp [outS] at ho; simp
theorem sh_sg (ht : t.length ≤ 1000) (p7 : p + 1 ≤ t.length) (p6 : t.cps.toList.drop (p + 1) = r) (ho : o = outS CN t (sgF r (q - 1))) :
    shW C CN k (XEofM o) (EndsMO ad C o) (st2 ad C t p q (Str.ofString "[")) := by
  have l1 : lkc waKV (Str.ofString "[") = none := by decide +kernel
  refine ifN (fun Q h => by simp [l1]; exact h) (ifN (eq_2 (by decide +kernel)) (ifY (eq_2 (by decide +kernel)) ?_))
  simp
  refine ⟨_, ⟨t, p + 1, q - 1, ht, p7, by simp, rfl, rfl⟩, ?_⟩
  rw [p6, ← ho]
  cases o with
  | ok d fs => simp
  | ex c => simp
theorem sh_leaf {c : Nat} (hlen : t.length - r.length = p + 1) (f2 : lkc waKV ⟨#[c]⟩ = none) (f3 : ((⟨#[c]⟩ : Str) == Str.ofString "{") = false) (f4 : ((⟨#[c]⟩ : Str) == Str.ofString "[") = false) (f5 : ((⟨#[c]⟩ : Str) == Str.ofString "(") = false) (ho : o = outS CN t (some (.signs (mkS [c]), r, q - 1))) :
    shW C CN k (XEofM o) (EndsMO ad C o) (st2 ad C t p q ⟨#[c]⟩) := by
  have z2 : (2 : Nat) ≤ sizeLine := by decide
  refine ifN (fun Q h => by simp [f2]; exact h) (ifN (eq_2 f3) (ifN (eq_2 f4) (ifN (eq_2 f5) ?_)))
  subst ho
  simp [z2, outS, Sh.toD, hlen]
  rfl
end
theorem rd_shape (k : Nat) : ∀ a fs rs o, rs.length = 0 → msp_shape CN (k + 1) fs rs o → w_Reader_read_shape C CN (msp_take CN) (msp_shape CN k) (msp_signs CN) (msp_br CN k) (XEofM o) (EndsMO a C o) (startD N_Reader_read_shape (.ms a C .non fs :: rs)) := by
  rintro ad fs rs o _ ⟨t, p, q, ht, hp, hq, rfl, rfl, ho⟩
  have ho : o = outS CN t (shF (rdS k) (t.cps.toList.drop p) q) := ho
  unfold w_Reader_read_shape
  refine sh_first ht hp (fun h0 => ?_) (fun _ hd => ?_) (fun c r _ hd hc => ?_) fun c r h0 hd hc => ?_
  · subst ho; simp [shF, h0, outS]
  · subst ho; simp [shF, hd, outS]
  · subst ho; rw [hd, shF_bad hc]; simp [outS]
  · have q0 : ¬ q = 0 := by omega
    have p6 : t.cps.toList.drop (p + 1) = r := by rw [← List.drop_drop, hd]; rfl
    have p7 : p + 1 ≤ t.length := (at1_of hd).1
    have hlen : t.length - r.length = p + 1 := by
      have := congrArg List.length hd
      rw [List.length_drop, len_cps, List.length_cons] at this
      omega
    rw [hd] at ho
    simp only [List.mem_cons, List.not_mem_nil, or_false] at hc
    show shW C CN k (XEofM o) (EndsMO ad C o) (st2 ad C t p q ⟨#[c]⟩)
    rcases hc with rfl | rfl | rfl | rfl | rfl | hc
    · exact sh_none ht p7 p6 hlen (by rw [ho]; congr 1; rw [shF_q q0]; rfl)
    · exact sh_br ht p7 (by omega) p6 (by rw [ho]; congr 1; rw [shF_q q0]; rfl)
    · exact sh_sg ht p7 p6 (by rw [ho]; congr 1; rw [shF_q q0]; rfl)
    · exact sh_one ht p7 (by omega) p6 (w := "not") (by decide +kernel) (fun _ => rfl) (by rw [ho]; congr 1; rw [shF_q q0]; rfl)
    · exact sh_one ht p7 (by omega) p6 (w := "many") (by decide +kernel) (fun _ => rfl) (by rw [ho]; congr 1; rw [shF_q q0]; rfl)
    · obtain ⟨f2, f3, f4, f5⟩ := (by decide +kernel : ∀ c ∈ [48, 49, 97, 98], lkc waKV ⟨#[c]⟩ = none ∧ ((⟨#[c]⟩ : Str) == Str.ofString "{") = false ∧ ((⟨#[c]⟩ : Str) == Str.ofString "[") = false ∧ ((⟨#[c]⟩ : Str) == Str.ofString "(") = false) c (by simpa using hc)
      refine sh_leaf hlen f2 f3 f4 f5 ?_
      rw [ho, shF_q q0]
      congr 1
      rcases hc with rfl | rfl | rfl | rfl <;> rfl
end
end K81
end
section
set_option maxRecDepth 100000
set_option maxHeartbeats 4000000
namespace K81
open PySem PySem.Spec PyProof.Rows L2 TK
theorem head_ne : ∀ s : Sh, okS s → ∃ c r, wrL s = c :: r ∧ c ≠ 41
  | .none, _ => ⟨_, _, rfl, by decide⟩
  | .empty, _ => ⟨_, _, rfl, by decide⟩
  | .signs s, h => by
    have h1 := (by decide +kernel : ∀ s ∈ sgList, ∃ c, (s.cps.toList.head? = some c) ∧ c ≠ 41) s h
    obtain ⟨c, hc, hn⟩ := h1
    simp only [wrL]
    split
    · cases e : s.cps.toList with
      | nil => rw [e] at hc; cases hc
      | cons x r => rw [e] at hc; cases hc; exact ⟨_, _, rfl, hn⟩
    · exact ⟨_, _, rfl, by decide⟩
  | .not _, _ => ⟨_, _, rfl, by decide⟩
  | .many _, _ => ⟨_, _, rfl, by decide⟩
  | .thn _ _, _ => ⟨_, _, rfl, by decide⟩
  | .or _ _, _ => ⟨_, _, rfl, by decide⟩
  | .and _ _, _ => ⟨_, _, rfl, by decide⟩
theorem size_pos (s : Sh) : 1 ≤ s.size := by cases s <;> simp [Sh.size]
theorem not41 {s : Sh} (h : okS s) (r : List Nat) : ¬ (wrL s ++ r).head? = some 41 := by
  obtain ⟨c, x, e, n⟩ := head_ne s h
  rw [e]
  intro z
  exact n (Option.some.inj z)
theorem not41d {s : Sh} (h : okS s) (d : Nat) : ¬ (wrL s).head?.getD d = 41 := by
  obtain ⟨c, x, e, n⟩ := head_ne s h
  rw [e]
  exact n
theorem sgOk_of {s : Str} (h : s ∈ sgList) (h1 : ¬ s.length = 1) : sgOk s.cps.toList = true ∧ mkS s.cps.toList = s := by
  have e : mkS s.cps.toList = s := str_of rfl
  refine ⟨?_, e⟩
  unfold sgOk
  rw [e, sg_are h, len_cps]
  have := sg_len h
  simp
  omega
theorem sgF_of {s : Str} (h : s ∈ sgList) (h1 : ¬ s.length = 1) (r : List Nat) (q : Nat) : sgF (s.cps.toList ++ 93 :: r) q = some (.signs s, r, q) := by
  obtain ⟨h2, h3⟩ := sgOk_of h h1
  unfold sgF
  rw [cutBr_of (sg_no h)]
  dsimp only
  rw [if_pos h2, h3]
theorem sg_one {s : Str} (h : s ∈ sgList) (h1 : s.length = 1) : ∃ c, (c = 48 ∨ c = 49 ∨ c = 97 ∨ c = 98) ∧ s = mkS [c] ∧ s.cps.toList = [c] := by
  obtain ⟨c, hc, e⟩ := (by decide +kernel : ∀ s ∈ sgList, s.length = 1 → ∃ c ∈ [48, 49, 97, 98], s.cps.toList = [c]) s h h1
  exact ⟨c, by simpa using hc, str_of e, e⟩
theorem rd_of : ∀ (s : Sh) (k q : Nat) (r : List Nat), okS s → s.size ≤ q → q < k → rdS k (wrL s ++ r) q = some (s, r, q - s.size)
  | s, 0, q, r, _, _, h => absurd h (Nat.not_lt_zero _)
  | .none, k + 1, q, r, _, h1, _ => by
    have q0 : ¬ q = 0 := by simp [Sh.size] at h1; omega
    simp [rdS, shF, wrL, q0, Sh.size]
  | .empty, k + 1, q, r, _, h1, _ => by
    have q0 : ¬ q = 0 := by simp [Sh.size] at h1; omega
    simp [rdS, shF, wrL, q0, Sh.size, brF]
  | .signs s, k + 1, q, r, ok, h1, _ => by
    have q0 : ¬ q = 0 := by simp [Sh.size] at h1; omega
    by_cases hl : s.length = 1
    · obtain ⟨c, hc, e1, e2⟩ := sg_one ok hl
      have hw : wrL (.signs s) = [c] := by rw [wrL, if_pos hl, e2]
      rw [hw, e1]
      rcases hc with rfl | rfl | rfl | rfl <;> simp [rdS, shF, q0, Sh.size]
    · have hw : wrL (.signs s) ++ r = 91 :: (s.cps.toList ++ 93 :: r) := by rw [wrL, if_neg hl]; simp
      rw [hw]
      simp [rdS, shF, q0, Sh.size, sgF_of ok hl]
  | .not a, k + 1, q, r, ok, h1, h2 => by
    simp only [Sh.size] at h1
    have q0 : ¬ q = 0 := by omega
    have ih := rd_of a k (q - 1) r ok (by omega) (by omega)
    simp [rdS, shF, wrL, q0, Sh.size, ih, oneF]
    omega
  | .many a, k + 1, q, r, ok, h1, h2 => by
    simp only [Sh.size] at h1
    have q0 : ¬ q = 0 := by omega
    have ih := rd_of a k (q - 1) r ok (by omega) (by omega)
    simp [rdS, shF, wrL, q0, Sh.size, ih, oneF]
    omega
  | .thn a b, k + 1, q, r, ok, h1, h2 => by
    simp only [Sh.size] at h1
    have q0 : ¬ q = 0 := by omega
    have i1 := rd_of a k (q - 1) (32 :: (wrL b ++ (41 :: r))) ok.1 (by omega) (by omega)
    have i2 := rd_of b k (q - 1 - a.size) (41 :: r) ok.2 (by omega) (by omega)
    have n := not41d ok.1 32
    simp [rdS, shF, wrL, q0, Sh.size, brF, n, i1, i2, betwF, mkW, closeF]
    omega
  | .or a b, k + 1, q, r, ok, h1, h2 => by
    simp only [Sh.size] at h1
    have q0 : ¬ q = 0 := by omega
    have i1 := rd_of a k (q - 1) (124 :: (wrL b ++ (41 :: r))) ok.1 (by omega) (by omega)
    have i2 := rd_of b k (q - 1 - a.size) (41 :: r) ok.2 (by omega) (by omega)
    have n := not41d ok.1 124
    simp [rdS, shF, wrL, q0, Sh.size, brF, n, i1, i2, betwF, mkW, closeF]
    omega
  | .and a b, k + 1, q, r, ok, h1, h2 => by
    simp only [Sh.size] at h1
    have q0 : ¬ q = 0 := by omega
    have i1 := rd_of a k (q - 1) (38 :: (wrL b ++ (41 :: r))) ok.1 (by omega) (by omega)
    have i2 := rd_of b k (q - 1 - a.size) (41 :: r) ok.2 (by omega) (by omega)
    have n := not41d ok.1 38
    simp [rdS, shF, wrL, q0, Sh.size, brF, n, i1, i2, betwF, mkW, closeF]
    omega
noncomputable abbrev La := List Nat → Option (Sh × Nat × List Nat)
noncomputable def lone (w : Sh → Sh) : Option (Sh × Nat × List Nat) → Option (Sh × Nat × List Nat)
  | some (a, n, r) => some (w a, n + 1, r)
  | none => none
noncomputable def lclose (w : Sh → Sh → Sh) (a : Sh) (n : Nat) : Option (Sh × Nat × List Nat) → Option (Sh × Nat × List Nat)
  | some (b, m, 41 :: r) => some (w a b, n + m + 1, r)
  | _ => none
noncomputable def lbetw (f : La) : Option (Sh × Nat × List Nat) → Option (Sh × Nat × List Nat)
  | some (a, n, c :: r) => match mkW c with
    | some w => lclose w a n (f r)
    | none => none
  | _ => none
noncomputable def lsg (r : List Nat) : Option (Sh × Nat × List Nat) := match cutBr r with
  | some (s, r') => if sgOk s then some (.signs (mkS s), 1, r') else none
  | none => none
noncomputable def latF (f : La) : La := fun L => match L with
  | [] => none
  | c :: r =>
    if c = 48 ∨ c = 49 ∨ c = 97 ∨ c = 98 then some (.signs (mkS [c]), 1, r)
    else if c = 123 then (if r.head? = some 125 then some (.none, 1, r.tail) else none)
    else if c = 91 then lsg r
    else if c = 33 then lone .not (f r) else if c = 42 then lone .many (f r)
    else if c = 40 then (if r.head? = some 41 then some (.empty, 1, r.tail) else lbetw f (f r)) else none
noncomputable def lat : Nat → La
  | 0 => fun _ => none
  | k + 1 => latF (lat k)
noncomputable def LSound (f : La) : Prop := ∀ L s n r, f L = some (s, n, r) → okS s ∧ L = wrL s ++ r ∧ n = s.size
theorem lsg_sound {L : List Nat} {s : Sh} {n : Nat} {r : List Nat} (h : lsg L = some (s, n, r)) : okS s ∧ 91 :: L = wrL s ++ r ∧ n = s.size := by
  have : sgF L 0 = some (s, r, 0) ∧ n = 1 := by
    unfold lsg at h
    unfold sgF
    cases hc : cutBr L with
    | none => rw [hc] at h; cases h
    | some p =>
      obtain ⟨x, y⟩ := p
      rw [hc] at h
      dsimp only at h ⊢
      split at h
      · rename_i hk; cases h; exact ⟨by rw [if_pos hk], rfl⟩
      · cases h
  obtain ⟨h1, h2, _, h4⟩ := sgF_sound this.1
  exact ⟨h1, h2, by omega⟩
theorem lsound_F {f : La} (hf : LSound f) : LSound (latF f) := by
  intro L s n r h
  unfold latF at h
  cases L with
  | nil => cases h
  | cons c L =>
    dsimp only at h
    split at h
    · rename_i hc
      cases h
      have hin : mkS [c] ∈ sgList := by
        rcases hc with rfl | rfl | rfl | rfl <;> decide +kernel
      have hl : (mkS [c]).length = 1 := rfl
      exact ⟨hin, by rw [wrL, if_pos hl, mkS_cps]; rfl, rfl⟩
    split at h
    · rename_i hc
      split at h
      · rename_i hd
        cases h
        exact ⟨trivial, by rw [hc]; conv => lhs; rw [head_cons hd]
                           rfl, rfl⟩
      · cases h
    split at h
    · rename_i hc
      obtain ⟨h1, h2, h3⟩ := lsg_sound h
      exact ⟨h1, by rw [hc]; exact h2, h3⟩
    split at h
    · rename_i hc
      cases e : f L with
      | none => rw [e] at h; cases h
      | some x =>
        obtain ⟨a, y, z⟩ := x
        rw [e] at h; cases h
        obtain ⟨h1, h2, h3⟩ := hf _ _ _ _ e
        exact ⟨h1, by rw [h2, hc]; rfl, by simp only [Sh.size]; omega⟩
    split at h
    · rename_i hc
      cases e : f L with
      | none => rw [e] at h; cases h
      | some x =>
        obtain ⟨a, y, z⟩ := x
        rw [e] at h; cases h
        obtain ⟨h1, h2, h3⟩ := hf _ _ _ _ e
        exact ⟨h1, by rw [h2, hc]; rfl, by simp only [Sh.size]; omega⟩
    split at h
    · rename_i hc
      split at h
      · rename_i hd
        cases h
        exact ⟨trivial, by rw [hc]; conv => lhs; rw [head_cons hd]
                           rfl, rfl⟩
      · cases e : f L with
        | none => rw [e] at h; cases h
        | some x =>
          obtain ⟨a, z, y⟩ := x
          rw [e] at h
          obtain ⟨h1, h2, h3⟩ := hf _ _ _ _ e
          cases y with
          | nil => cases h
          | cons d y =>
            have h : (match mkW d with | some w => lclose w a z (f y) | none => none) = some (s, n, r) := h
            cases ew : mkW d with
            | none => rw [ew] at h; cases h
            | some w =>
              rw [ew] at h
              have h : lclose w a z (f y) = some (s, n, r) := h
              cases e2 : f y with
              | none => rw [e2] at h; cases h
              | some x2 =>
                obtain ⟨b, z2, y2⟩ := x2
                rw [e2] at h
                obtain ⟨g1, g2, g3⟩ := hf _ _ _ _ e2
                cases y2 with
                | nil => cases h
                | cons d2 y2 =>
                  unfold lclose at h
                  split at h
                  · rename_i b' r' q2 heq
                    cases heq
                    cases h
                    have hw : (d = 32 ∧ w = Sh.thn) ∨ (d = 124 ∧ w = Sh.or) ∨ (d = 38 ∧ w = Sh.and) := by
                      unfold mkW at ew
                      split at ew
                      · cases ew; exact .inl ⟨rfl, rfl⟩
                      · cases ew; exact .inr (.inl ⟨rfl, rfl⟩)
                      · cases ew; exact .inr (.inr ⟨rfl, rfl⟩)
                      · cases ew
                    rcases hw with ⟨rfl, rfl⟩ | ⟨rfl, rfl⟩ | ⟨rfl, rfl⟩
                    · exact ⟨⟨h1, g1⟩, by rw [hc, h2, g2]; simp [wrL], by simp only [Sh.size]; omega⟩
                    · exact ⟨⟨h1, g1⟩, by rw [hc, h2, g2]; simp [wrL], by simp only [Sh.size]; omega⟩
                    · exact ⟨⟨h1, g1⟩, by rw [hc, h2, g2]; simp [wrL], by simp only [Sh.size]; omega⟩
                  · cases h
    · cases h
theorem lsound : ∀ k, LSound (lat k)
  | 0 => fun L s n r h => by cases h
  | k + 1 => lsound_F (lsound k)
theorem lsg_of {s : Str} (h : s ∈ sgList) (h1 : ¬ s.length = 1) (r : List Nat) : lsg (s.cps.toList ++ 93 :: r) = some (.signs s, 1, r) := by
  obtain ⟨h2, h3⟩ := sgOk_of h h1
  unfold lsg
  rw [cutBr_of (sg_no h)]
  dsimp only
  rw [if_pos h2, h3]
theorem lat_of : ∀ (s : Sh) (k : Nat) (r : List Nat), okS s → (wrL s ++ r).length < k → lat k (wrL s ++ r) = some (s, s.size, r)
  | s, 0, r, _, h => absurd h (Nat.not_lt_zero _)
  | .none, k + 1, r, _, _ => by simp [lat, latF, wrL, Sh.size]
  | .empty, k + 1, r, _, _ => by simp [lat, latF, wrL, Sh.size]
  | .signs s, k + 1, r, ok, _ => by
    by_cases hl : s.length = 1
    · obtain ⟨c, hc, e1, e2⟩ := sg_one ok hl
      have hw : wrL (.signs s) = [c] := by rw [wrL, if_pos hl, e2]
      rw [hw, e1]
      rcases hc with rfl | rfl | rfl | rfl <;> simp [lat, latF, Sh.size]
    · have hw : wrL (.signs s) ++ r = 91 :: (s.cps.toList ++ 93 :: r) := by rw [wrL, if_neg hl]; simp
      rw [hw]
      simp [lat, latF, Sh.size, lsg_of ok hl]
  | .not a, k + 1, r, ok, h2 => by
    simp only [wrL, List.cons_append, List.length_cons] at h2
    have ih := lat_of a k r ok (by omega)
    simp [lat, latF, wrL, Sh.size, ih, lone]
  | .many a, k + 1, r, ok, h2 => by
    simp only [wrL, List.cons_append, List.length_cons] at h2
    have ih := lat_of a k r ok (by omega)
    simp [lat, latF, wrL, Sh.size, ih, lone]
  | .thn a b, k + 1, r, ok, h2 => by
    simp only [wrL, List.cons_append, List.length_cons, List.length_append, List.length_nil] at h2
    have i1 := lat_of a k (32 :: (wrL b ++ (41 :: r))) ok.1 (by simp; omega)
    have i2 := lat_of b k (41 :: r) ok.2 (by simp; omega)
    have n := not41d ok.1 32
    simp [lat, latF, wrL, Sh.size, n, i1, i2, lbetw, mkW, lclose]
  | .or a b, k + 1, r, ok, h2 => by
    simp only [wrL, List.cons_append, List.length_cons, List.length_append, List.length_nil] at h2
    have i1 := lat_of a k (124 :: (wrL b ++ (41 :: r))) ok.1 (by simp; omega)
    have i2 := lat_of b k (41 :: r) ok.2 (by simp; omega)
    have n := not41d ok.1 124
    simp [lat, latF, wrL, Sh.size, n, i1, i2, lbetw, mkW, lclose]
  | .and a b, k + 1, r, ok, h2 => by
    simp only [wrL, List.cons_append, List.length_cons, List.length_append, List.length_nil] at h2
    have i1 := lat_of a k (38 :: (wrL b ++ (41 :: r))) ok.1 (by simp; omega)
    have i2 := lat_of b k (41 :: r) ok.2 (by simp; omega)
    have n := not41d ok.1 38
    simp [lat, latF, wrL, Sh.size, n, i1, i2, lbetw, mkW, lclose]
end K81
end
section
set_option maxRecDepth 100000
set_option maxHeartbeats 4000000
namespace K81
open PySem PySem.Spec PyProof.Rows L2 TK
theorem slice_k {t : Str} {p : Nat} (n : Nat) (h : p ≤ t.length) : Txt.slice t (some (p : Int)) (some ((p + n : Nat) : Int)) = mkS ((t.cps.toList.drop p).take n) := by
  apply str_of
  by_cases hp : p + n ≤ t.length
  · rw [slice_mid (by omega) hp]
    simp [mkS]
  · rw [slice_of (a := p) (b := t.length) h (Nat.le_refl _) (by rw [idx_clip _ _ _ (by omega)]; exact StrLaws.strSliceIndices_plain h (Nat.le_refl _))]
    rw [mkS_cps, List.take_of_length_le (by rw [List.length_drop, len_cps]; omega), List.take_of_length_le (by rw [List.length_drop, len_cps]; omega)]
noncomputable def atD (t : Str) : Option (Sh × Nat × List Nat) → D
  | some (s, n, r) => .tup [s.toD, .int (n : Int), .int ((t.length - r.length : Nat) : Int)]
  | none => .non
noncomputable def sp_at (k : Nat) : DSp := fun rs r => ∃ (t : Str) (p : Nat), t.length ≤ 1000 ∧ p ≤ t.length ∧ t.length - p < k ∧ rs = [.st (.str t), .st (.int (p : Int))] ∧ r = .st (atD t (lat k (t.cps.toList.drop p)))
noncomputable def sg11 : List Str := ["01", "0a", "0b", "1a", "1b", "ab", "01a", "01b", "0ab", "1ab", "01ab"]
theorem sg11_list {x : Str} (h : x ∈ sg11) : x ∈ sgList ∧ 2 ≤ x.length ∧ x.length ≤ 4 := (by decide +kernel : ∀ x ∈ sg11, x ∈ sgList ∧ 2 ≤ x.length ∧ x.length ≤ 4) x h
theorem sgOk_iff (s : List Nat) : sgOk s = decide (mkS s ∈ sg11) := by
  by_cases h : mkS s ∈ sg11
  · rw [decide_eq_true h]
    obtain ⟨h1, h2, _⟩ := sg11_list h
    have := sgOk_of h1 (by omega)
    rw [mkS_cps] at this
    exact this.1
  · rw [decide_eq_false h]
    refine Bool.eq_false_iff.mpr fun z => h ?_
    unfold sgOk at z
    simp only [Bool.and_eq_true, decide_eq_true_eq] at z
    exact (by decide +kernel : ∀ x ∈ sgList, 2 ≤ x.length → x ∈ sg11) (mkS s) (sg_are_list _ z.2) (by rw [mkS_len]; exact z.1)
theorem brk_eq (x : Str) : (Str.ofString "[" ++ x ++ Str.ofString "]") = mkS (91 :: (x.cps.toList ++ [93])) := by
  apply str_of
  rw [Str.cps_append, Str.cps_append, mkS_cps]
  simp
  rfl
theorem match_iff {r : List Nat} {x : Str} (hx : x ∈ sg11) : mkS (91 :: r.take (x.length + 1)) = (Str.ofString "[" ++ x ++ Str.ofString "]") ↔ ∃ r', cutBr r = some (x.cps.toList, r') := by
  rw [brk_eq]
  have hno := sg_no (sg11_list hx).1
  have hl := len_cps x
  constructor
  · intro h
    have h := congrArg (fun s : Str => s.cps.toList) h
    simp only [mkS_cps, List.cons.injEq, true_and] at h
    refine ⟨r.drop (x.length + 1), ?_⟩
    have e : r = x.cps.toList ++ 93 :: r.drop (x.length + 1) := by
      conv => lhs; rw [← List.take_append_drop (x.length + 1) r, h]
      simp
    conv => lhs; rw [e]
    exact cutBr_of hno
  · rintro ⟨r', h⟩
    obtain ⟨h1, _⟩ := cutBr_some h
    congr 1
    rw [h1, List.take_append, hl]
    congr 1
    rw [List.take_of_length_le (by omega)]
    have : x.length + 1 - x.length = 1 := by omega
    rw [this]
    rfl
noncomputable def bodyB : WS := (wIfS (wOp (eqD 60 false) (wSl (wV 0) (oSome (wV 1)) (oSome (wOp addD (wOp addD (wV 1) (wCB lenD (wCons (wV 3) wNil))) (wC (.int 2))))) (wOp addD (wOp addD (wC (.str "[")) (wV 3)) (wC (.str "]")))) (wRet (wTup (wCons (wFz (wTup (wCons (wFz (wC (.str "signs"))) (wCons (wFz (wV 3)) wNil)))) (wCons (wFz (wC (.int 1))) (wCons (wFz (wOp addD (wOp addD (wV 1) (wCB lenD (wCons (wV 3) wNil))) (wC (.int 2)))) wNil))))) wNext)
theorem len_ap (x y : Str) : (x ++ y).length = x.length + y.length := by
  rw [← len_cps, Str.cps_append, Array.toList_append, List.length_append, len_cps, len_cps]
theorem body_step {t : Str} {p : Nat} {r : List Nat} {x : Str} {o2 o4 o5 o6 : Option Sl} {E : DEnds} (ht : t.length ≤ 1000) (hp : p ≤ t.length) (hd : t.cps.toList.drop p = 91 :: r) (hx : x ∈ sg11)
    (h1 : (∃ r', cutBr r = some (x.cps.toList, r')) → E.rt (.st (.tup [Sh.toD (.signs x), .int 1, .int ((p + (x.length + 2) : Nat) : Int)])))
    (h2 : (¬ ∃ r', cutBr r = some (x.cps.toList, r')) → E.nx [some (.dat (.str t)), some (.dat (.int (p : Int))), o2, some (.dat (.str x)), o4, o5, o6]) :
    bodyB E [some (.dat (.str t)), some (.dat (.int (p : Int))), o2, some (.dat (.str x)), o4, o5, o6] := by
  have hl := sg11_list hx
  have z : ∀ m : Nat, m ≤ 1000 → m ≤ sizeLine := fun m h => Nat.le_trans h (by decide)
  have sl : Txt.slice t (some (p : Int)) (some ((p : Int) + (x.length : Int) + 2)) = mkS (91 :: r.take (x.length + 1)) := by
    have e : (p : Int) + (x.length : Int) + 2 = ((p + (x.length + 2) : Nat) : Int) := by omega
    rw [e, slice_k _ hp, hd]
    rfl
  have la := len_ap (Str.ofString "[") x
  have l1 : (Str.ofString "[").length = 1 := rfl
  have l2 : (Str.ofString "]").length = 1 := rfl
  have z2 : (2 : Nat) ≤ sizeLine := by decide
  have z3 : (3 : Nat) ≤ sizeLine := by decide
  have mi := match_iff (r := r) hx
  by_cases hm : ∃ r', cutBr r = some (x.cps.toList, r')
  · have e := mi.mpr hm
    have h1 := h1 hm
    simp [bodyB, sl, e, z2, z3, z _ ht, z _ (show x.length ≤ 1000 by omega)]
    refine ⟨z _ (by omega), z _ (by omega), ?_⟩
    have e2 : (p : Int) + (x.length : Int) + 2 = ((p + (x.length + 2) : Nat) : Int) := by omega
    rw [e2]
    exact h1
  · have e : ¬ mkS (91 :: r.take (x.length + 1)) = (Str.ofString "[" ++ x ++ Str.ofString "]") := fun z => hm (mi.mp z)
    have h2 := h2 hm
    simp [bodyB, sl, e, z _ ht, z _ (show x.length ≤ 1000 by omega)]
    refine ⟨z _ (by omega), z _ (by omega), ?_⟩
    exact h2
theorem body_loop {t : Str} {p : Nat} {r : List Nat} {o2 o4 o5 o6 : Option Sl} {E : DEnds} (ht : t.length ≤ 1000) (hp : p ≤ t.length) (hd : t.cps.toList.drop p = 91 :: r)
    : ∀ (xs : List Str) (o3 : Option Sl), (∀ x ∈ xs, x ∈ sg11) →
      (∀ x ∈ xs, ∀ r', cutBr r = some (x.cps.toList, r') → E.rt (.st (.tup [Sh.toD (.signs x), .int 1, .int ((p + (x.length + 2) : Nat) : Int)]))) →
      ((∀ x ∈ xs, ∀ r', cutBr r ≠ some (x.cps.toList, r')) → ∀ o3, E.nx [some (.dat (.str t)), some (.dat (.int (p : Int))), o2, o3, o4, o5, o6]) →
      forW (gNm 3) bodyB E (xs.map D.str) [some (.dat (.str t)), some (.dat (.int (p : Int))), o2, o3, o4, o5, o6]
  | [], o3, _, _, h2 => h2 (by simp) o3
  | x :: xs, o3, hx, h1, h2 => by
    simp only [List.map_cons, forW]
    show bodyB _ [some (.dat (.str t)), some (.dat (.int (p : Int))), o2, some (.dat (.str x)), o4, o5, o6]
    refine body_step ht hp hd (hx x List.mem_cons_self) (fun ⟨r', h⟩ => h1 x List.mem_cons_self r' h) fun hn => ?_
    exact body_loop ht hp hd xs _ (fun y hy => hx y (List.mem_cons_of_mem _ hy)) (fun y hy => h1 y (List.mem_cons_of_mem _ hy)) fun h3 => h2 fun y hy r' => by
      rcases List.mem_cons.mp hy with rfl | hy
      · exact fun z => hn ⟨r', z⟩
      · exact h3 y hy r'
end K81
end
section
set_option maxRecDepth 100000
set_option maxHeartbeats 4000000
namespace K81
open PySem PySem.Spec PyProof.Rows L2 TK
theorem two_iff {c d e : Nat} {r : List Nat} {x : Str} (hx : x = mkS [d, e]) : mkS (c :: r.take 1) = x ↔ c = d ∧ r.head? = some e := by
  rw [hx]
  constructor
  · intro h
    have h := congrArg (fun s : Str => s.cps.toList) h
    simp only [mkS_cps, List.cons.injEq] at h
    refine ⟨h.1, ?_⟩
    cases r with
    | nil => cases h.2
    | cons y r => have := h.2; simp at this; rw [this]; rfl
  · rintro ⟨rfl, h⟩
    cases r with
    | nil => cases h
    | cons y r => cases h; rfl
theorem in01 (c : Nat) : inStr ⟨#[c]⟩ (Str.ofString "01ab") = decide (c = 48 ∨ c = 49 ∨ c = 97 ∨ c = 98) := by
  rw [inStr_one]
  have e : (Str.ofString "01ab").cps.toList = [48, 49, 97, 98] := by decide +kernel
  rw [e]
  simp
theorem lat_pos {t : Str} {p : Nat} {k n : Nat} {s : Sh} {r : List Nat} (hp : p ≤ t.length) (h : lat k (t.cps.toList.drop p) = some (s, n, r)) :
    t.length - r.length = p + (wrL s).length ∧ t.cps.toList.drop (t.length - r.length) = r ∧ t.length - r.length ≤ t.length ∧ n = s.size := by
  obtain ⟨h1, h2, h3⟩ := lsound k _ _ _ _ h
  have hl := congrArg List.length h2
  rw [List.length_drop, len_cps, List.length_append] at hl
  have e : t.length - r.length = p + (wrL s).length := by omega
  exact ⟨e, by rw [e]; exact drop_next h2, by omega, h3⟩
theorem at0 {x : D} {r : List D} : atI (x :: r) 0 = some x := by simp [atI, ixN]
theorem atI1 {x y : D} {r : List D} : atI (x :: y :: r) 1 = some y := by
  have h : (1 : Int) < (r.length : Int) + 1 + 1 := by omega
  simp [atI, ixN, h]
theorem at2 {x y z : D} : atI [x, y, z] 2 = some z := rfl
theorem ev_str {x y : Str} : eqV (.str x) (.str y) = (x == y) := rfl
theorem inv3 {x : Str} : inV (.str x) [.str "!", .str "*", .str "("] = decide (x = "!" ∨ x = "*" ∨ x = "(") := by
  simp only [inV, List.any_cons, List.any_nil, ev_str, Bool.or_false]
  by_cases h1 : x = "!"
  · subst h1; decide +kernel
  · by_cases h2 : x = "*"
    · subst h2; decide +kernel
    · by_cases h3 : x = "("
      · subst h3; decide +kernel
      · have n1 : (Str.ofString "!" == x) = false := by simpa using fun z => h1 z.symm
        have n2 : (Str.ofString "*" == x) = false := by simpa using fun z => h2 z.symm
        have n3 : (Str.ofString "(" == x) = false := by simpa using fun z => h3 z.symm
        rw [n1, n2, n3]
        simp [h1, h2, h3]
noncomputable abbrev lwKV : List (Str × Sum Int Str) := [(Str.ofString " ", Sum.inr (Str.ofString "then")), (Str.ofString "|", Sum.inr (Str.ofString "or")), (Str.ofString "&", Sum.inr (Str.ofString "and"))]
theorem lkw_none {d : Nat} (h : mkW d = none) : lkc [(Str.ofString " ", Sum.inr (Str.ofString "then")), (Str.ofString "|", Sum.inr (Str.ofString "or")), (Str.ofString "&", Sum.inr (Str.ofString "and"))] (⟨#[d]⟩ : Str) = none := by
  have h1 : ¬ Str.ofString " " = ⟨#[d]⟩ := chr_ne (c := 32) (d := d) fun e => by subst e; cases h
  have h2 : ¬ Str.ofString "|" = ⟨#[d]⟩ := chr_ne (c := 124) (d := d) fun e => by subst e; cases h
  have h3 : ¬ Str.ofString "&" = ⟨#[d]⟩ := chr_ne (c := 38) (d := d) fun e => by subst e; cases h
  simp [lkc, h1, h2, h3]
theorem lkw_some {d : Nat} {w : Sh → Sh → Sh} (h : mkW d = some w) : lkc [(Str.ofString " ", Sum.inr (Str.ofString "then")), (Str.ofString "|", Sum.inr (Str.ofString "or")), (Str.ofString "&", Sum.inr (Str.ofString "and"))] (⟨#[d]⟩ : Str) = some (.inr (wordN d)) ∧ ∀ a b, (w a b).toD = .tup [.str (wordN d), a.toD, b.toD] := by
  refine ⟨?_, (betw_word h).2⟩
  unfold mkW at h
  split at h
  · decide +kernel
  · decide +kernel
  · decide +kernel
  · cases h
noncomputable def a0 : WS := (wSet 2 (wSl (wV 0) (oSome (wV 1)) (oSome (wOp addD (wV 1) (wC (.int 1))))))
noncomputable def a1 : WS := (wIfS (wAnd (wOp neD (wV 2) (wC (.str ""))) (wOp (inD false) (wV 2) (wC (.str "01ab")))) (wRet (wTup (wCons (wFz (wTup (wCons (wFz (wC (.str "signs"))) (wCons (wFz (wV 2)) wNil)))) (wCons (wFz (wC (.int 1))) (wCons (wFz (wOp addD (wV 1) (wC (.int 1)))) wNil))))) wNext)
noncomputable def a2 : WS := (wIfS (wOp (eqD 60 false) (wSl (wV 0) (oSome (wV 1)) (oSome (wOp addD (wV 1) (wC (.int 2))))) (wOp addD (wC (.str "{")) (wC (.str "}")))) (wRet (wTup (wCons (wFz (wTup (wCons (wFz (wC (.str "none"))) wNil))) (wCons (wFz (wC (.int 1))) (wCons (wFz (wOp addD (wV 1) (wC (.int 2)))) wNil))))) wNext)
noncomputable def a3 : WS := (wIfS (wOp (eqD 60 false) (wSl (wV 0) (oSome (wV 1)) (oSome (wOp addD (wV 1) (wC (.int 2))))) (wC (.str "()"))) (wRet (wTup (wCons (wFz (wTup (wCons (wFz (wC (.str "empty"))) wNil))) (wCons (wFz (wC (.int 1))) (wCons (wFz (wOp addD (wV 1) (wC (.int 2)))) wNil))))) wNext)
noncomputable def a4 : WS := (wIfS (wOp (eqD 60 false) (wV 2) (wC (.str "["))) (wSeq (wFor (iTup (wTup (wCons (wFz (wC (.str "01"))) (wCons (wFz (wC (.str "0a"))) (wCons (wFz (wC (.str "0b"))) (wCons (wFz (wC (.str "1a"))) (wCons (wFz (wC (.str "1b"))) (wCons (wFz (wC (.str "ab"))) (wCons (wFz (wC (.str "01a"))) (wCons (wFz (wC (.str "01b"))) (wCons (wFz (wC (.str "0ab"))) (wCons (wFz (wC (.str "1ab"))) (wCons (wFz (wC (.str "01ab"))) wNil))))))))))))) (gNm 3) (wIfS (wOp (eqD 60 false) (wSl (wV 0) (oSome (wV 1)) (oSome (wOp addD (wOp addD (wV 1) (wCB lenD (wCons (wV 3) wNil))) (wC (.int 2))))) (wOp addD (wOp addD (wC (.str "[")) (wV 3)) (wC (.str "]")))) (wRet (wTup (wCons (wFz (wTup (wCons (wFz (wC (.str "signs"))) (wCons (wFz (wV 3)) wNil)))) (wCons (wFz (wC (.int 1))) (wCons (wFz (wOp addD (wOp addD (wV 1) (wCB lenD (wCons (wV 3) wNil))) (wC (.int 2)))) wNil))))) wNext)) (wRet (wC .non))) wNext)
noncomputable def a6 : WS := (wRet (wC .non))
noncomputable def b0 (sp_law_at : DSp) : WS := (wSet 4 (wCall sp_law_at (wCons (wV 0) (wCons (wOp addD (wV 1) (wC (.int 1))) wNil))))
noncomputable def b1 : WS := (wIfS (wOp (isND false) (wV 4) (wC .non)) (wRet (wC .non)) wNext)
noncomputable def b2 : WS := (wIfS (wOp neD (wV 2) (wC (.str "("))) (wRet (wTup (wCons (wFz (wTup (wCons (wFz (wDsub [("!", Sum.inr "not"), ("*", Sum.inr "many")] (wV 2))) (wCons (wFz (wOp ixD (wV 4) (wC (.int 0)))) wNil)))) (wCons (wFz (wOp addD (wOp ixD (wV 4) (wC (.int 1))) (wC (.int 1)))) (wCons (wFz (wOp ixD (wV 4) (wC (.int 2)))) wNil))))) wNext)
noncomputable def b3 : WS := (wSet 5 (wDget1 [(" ", Sum.inr "then"), ("|", Sum.inr "or"), ("&", Sum.inr "and")] (wSl (wV 0) (oSome (wOp ixD (wV 4) (wC (.int 2)))) (oSome (wOp addD (wOp ixD (wV 4) (wC (.int 2))) (wC (.int 1)))))))
noncomputable def b4 (sp_law_at : DSp) : WS := (wSet 6 (wIf (wOp (isND false) (wV 5) (wC .non)) (wC .non) (wCall sp_law_at (wCons (wV 0) (wCons (wOp addD (wOp ixD (wV 4) (wC (.int 2))) (wC (.int 1))) wNil)))))
noncomputable def b5 : WS := (wIfS (wOr (wOp (isND false) (wV 6) (wC .non)) (wOp neD (wSl (wV 0) (oSome (wOp ixD (wV 6) (wC (.int 2)))) (oSome (wOp addD (wOp ixD (wV 6) (wC (.int 2))) (wC (.int 1))))) (wC (.str ")")))) (wRet (wC .non)) wNext)
noncomputable def b6 : WS := (wRet (wTup (wCons (wFz (wTup (wCons (wFz (wV 5)) (wCons (wFz (wOp ixD (wV 4) (wC (.int 0)))) (wCons (wFz (wOp ixD (wV 6) (wC (.int 0)))) wNil))))) (wCons (wFz (wOp addD (wOp addD (wOp ixD (wV 4) (wC (.int 1))) (wOp ixD (wV 6) (wC (.int 1)))) (wC (.int 1)))) (wCons (wFz (wOp addD (wOp ixD (wV 6) (wC (.int 2))) (wC (.int 1)))) wNil)))))
noncomputable def B5 (sp_law_at : DSp) : WS := wSeq (b0 sp_law_at) (wSeq b1 (wSeq b2 (wSeq b3 (wSeq (b4 sp_law_at) (wSeq b5 b6)))))
noncomputable def a5 (sp_law_at : DSp) : WS := wIfS (wOp (inF false) (wV 2) (wTup (wCons (wFz (wC (.str "!"))) (wCons (wFz (wC (.str "*"))) (wCons (wFz (wC (.str "("))) wNil))))) (B5 sp_law_at) wNext
theorem at_eq (sp : DSp) : w_law_at sp = wSeq a0 (wSeq a1 (wSeq a2 (wSeq a3 (wSeq a4 (wSeq (a5 sp) a6))))) := rfl
noncomputable abbrev T3 (t : Str) (p : Nat) (x : Str) (o4 o5 o6 : Option Sl) : DSt := [some (.dat (.str t)), some (.dat (.int (p : Int))), some (.dat (.str x)), none, o4, o5, o6]
theorem z2 : (2 : Nat) ≤ sizeLine := by decide
theorem z3 : (3 : Nat) ≤ sizeLine := by decide
section
variable {t x : Str} {p : Nat} {E : DEnds} {o4 o5 o6 : Option Sl}
theorem a0_ok (ht : t.length ≤ 1000) (hp : p ≤ t.length) (h : E.nx (T3 t p (at1 t p) none none none)) : a0 E (startD N_law_at [.st (.str t), .st (.int (p : Int))]) := by
  have s1 := slice_1 hp
  have zt := z1000 ht
  simp [a0, s1, zt]
  exact h
theorem a1_yes (n : ¬ x = Str.ofString "") (i : inStr x (Str.ofString "01ab") = true) (h : E.rt (.st (.tup [.tup [.str "signs", .str x], .int 1, .int ((p : Int) + 1)]))) : a1 E (T3 t p x o4 o5 o6) := by
  have n' : (x == Str.ofString "") = false := by simpa using n
  simp [a1, bne, n', i, z2, z3]
  exact h
theorem a1_no (i : x = Str.ofString "" ∨ inStr x (Str.ofString "01ab") = false) (h : E.nx (T3 t p x o4 o5 o6)) : a1 E (T3 t p x o4 o5 o6) := by
  rcases i with rfl | i
  · simp [a1, bne]
    exact h
  · simp [a1, bne, i]
    exact h
theorem s2_of (hp : p ≤ t.length) : Txt.slice t (some (p : Int)) (some ((p : Int) + 2)) = mkS ((t.cps.toList.drop p).take 2) := by
  have e : (p : Int) + 2 = ((p + 2 : Nat) : Int) := by omega
  rw [e, slice_k _ hp]
theorem a2_yes (ht : t.length ≤ 1000) {y : Str} (hs : Txt.slice t (some (p : Int)) (some ((p : Int) + 2)) = y) (i : y = Str.ofString "{" ++ Str.ofString "}") (h : E.rt (.st (.tup [.tup [.str "none"], .int 1, .int ((p : Int) + 2)]))) : a2 E (T3 t p x o4 o5 o6) := by
  have l1 : (Str.ofString "{").length = 1 := rfl
  have l2 : (Str.ofString "}").length = 1 := rfl
  have z1 : (1 : Nat) ≤ sizeLine := by decide
  simp [a2, hs, i, z1000 ht, l1, l2, z1, z2, z3]
  exact h
theorem a2_no (ht : t.length ≤ 1000) {y : Str} (hs : Txt.slice t (some (p : Int)) (some ((p : Int) + 2)) = y) (i : ¬ y = Str.ofString "{" ++ Str.ofString "}") (h : E.nx (T3 t p x o4 o5 o6)) : a2 E (T3 t p x o4 o5 o6) := by
  have l1 : (Str.ofString "{").length = 1 := rfl
  have l2 : (Str.ofString "}").length = 1 := rfl
  simp [a2, hs, i, z1000 ht, l1, l2, z2]
  exact h
theorem a3_yes (ht : t.length ≤ 1000) {y : Str} (hs : Txt.slice t (some (p : Int)) (some ((p : Int) + 2)) = y) (i : y = Str.ofString "()") (h : E.rt (.st (.tup [.tup [.str "empty"], .int 1, .int ((p : Int) + 2)]))) : a3 E (T3 t p x o4 o5 o6) := by
  have z1 : (1 : Nat) ≤ sizeLine := by decide
  simp [a3, hs, i, z1000 ht, z1, z3]
  exact h
theorem a3_no (ht : t.length ≤ 1000) {y : Str} (hs : Txt.slice t (some (p : Int)) (some ((p : Int) + 2)) = y) (i : ¬ y = Str.ofString "()") (h : E.nx (T3 t p x o4 o5 o6)) : a3 E (T3 t p x o4 o5 o6) := by
  simp [a3, hs, i, z1000 ht]
  exact h
theorem a4_no (i : ¬ x = Str.ofString "[") (h : E.nx (T3 t p x o4 o5 o6)) : a4 E (T3 t p x o4 o5 o6) := by
  simp [a4, i]
  exact h
theorem a4_yes (ht : t.length ≤ 1000) (hp : p ≤ t.length) {r : List Nat} (hd : t.cps.toList.drop p = 91 :: r) (h : E.rt (.st (atD t (lsg r)))) : a4 E (T3 t p (Str.ofString "[") o4 o5 o6) := by
  have z11 : (11 : Nat) ≤ sizeLine := by decide
  have hall : ([D.str "01", D.str "0a", D.str "0b", D.str "1a", D.str "1b", D.str "ab", D.str "01a", D.str "01b", D.str "0ab", D.str "1ab", D.str "01ab"] : List D) = sg11.map D.str := rfl
  simp [a4, z11]
  rw [hall]
  refine body_loop ht hp hd sg11 none (fun x hx => hx) (fun x hx r' hc => ?_) fun hn o3 => ?_
  · have : sgOk x.cps.toList = true := by rw [sgOk_iff]; exact decide_eq_true (by rw [show mkS x.cps.toList = x from str_of rfl]; exact hx)
    have hl2 : t.length - r'.length = p + (x.length + 2) := by
      obtain ⟨e1, _⟩ := cutBr_some hc
      have h3 := congrArg List.length e1
      rw [List.length_append, List.length_cons, len_cps] at h3
      have h4 := congrArg List.length hd
      rw [List.length_drop, len_cps, List.length_cons] at h4
      omega
    simp only [lsg, hc, this, if_true, atD, hl2] at h
    rw [show mkS x.cps.toList = x from str_of rfl] at h
    exact h
  · have : lsg r = none := by
      unfold lsg
      cases hc : cutBr r with
      | none => rfl
      | some q =>
        obtain ⟨s, r'⟩ := q
        dsimp only
        rw [if_neg]
        rw [sgOk_iff]
        intro z
        have z := of_decide_eq_true z
        exact hn (mkS s) z r' (by rw [mkS_cps]; exact hc)
    rw [this] at h
    exact h
theorem a5_if {sp : DSp} {b : Bool} (i : inV (.str x) [.str "!", .str "*", .str "("] = b) (h : if b = true then B5 sp E (T3 t p x o4 o5 o6) else E.nx (T3 t p x o4 o5 o6)) : a5 sp E (T3 t p x o4 o5 o6) := by
  have fl3 : flVs [D.str (Str.ofString "!"), D.str (Str.ofString "*"), D.str (Str.ofString "(")] = some [.str "!", .str "*", .str "("] := rfl
  simp [a5, flV, fl3, i, z3]
  cases b with
  | true => exact h
  | false => exact h
theorem a5_no {sp : DSp} (i : inV (.str x) [.str "!", .str "*", .str "("] = false) (h : E.nx (T3 t p x o4 o5 o6)) : a5 sp E (T3 t p x o4 o5 o6) := a5_if i h
theorem a5_yes {sp : DSp} (i : inV (.str x) [.str "!", .str "*", .str "("] = true) (h : B5 sp E (T3 t p x o4 o5 o6)) : a5 sp E (T3 t p x o4 o5 o6) := a5_if i h
theorem a6_ok (h : E.rt (.st .non)) : a6 E (T3 t p x o4 o5 o6) := h
theorem b0_ok {sp : DSp} {d : D} (hc : sp [.st (.str t), .st (.int ((p : Int) + 1))] (.st d)) (h : E.nx (T3 t p x (some (.dat d)) o5 o6)) : b0 sp E (T3 t p x o4 o5 o6) := by
  simp [b0]
  exact ⟨_, hc, h⟩
theorem b1_yes (h : E.rt (.st .non)) : b1 E (T3 t p x (some (.dat .non)) o5 o6) := by
  simp [b1]
  exact h
theorem b1_no {ds : List D} (h : E.nx (T3 t p x (some (.dat (.tup ds))) o5 o6)) : b1 E (T3 t p x (some (.dat (.tup ds))) o5 o6) := by
  simp [b1]
  exact h
theorem b2_no {d : D} (h : E.nx (T3 t p (Str.ofString "(") (some (.dat d)) o5 o6)) : b2 E (T3 t p (Str.ofString "(") (some (.dat d)) o5 o6) := by
  simp [b2, bne]
  exact h
theorem b2_yes {d : D} {n q : Int} {w : Str} (i : ¬ x = Str.ofString "(") (l : lkc [(Str.ofString "!", Sum.inr (Str.ofString "not")), (Str.ofString "*", Sum.inr (Str.ofString "many"))] x = some (.inr w))
    (h : E.rt (.st (.tup [.tup [.str w, d], .int (n + 1), .int q]))) : b2 E (T3 t p x (some (.dat (.tup [d, .int n, .int q]))) o5 o6) := by
  have i' : (x == Str.ofString "(") = false := by simpa using i
  simp [b2, bne, i', l, cD, at0, atI1, at2, z2, z3]
  exact h
theorem b3_ok {d : D} {n : Int} {q : Nat} {y : Str} {o : Option (Sum Int Str)} (ht : t.length ≤ 1000) (hs : Txt.slice t (some (q : Int)) (some ((q : Int) + 1)) = y) (l : lkc [(Str.ofString " ", Sum.inr (Str.ofString "then")), (Str.ofString "|", Sum.inr (Str.ofString "or")), (Str.ofString "&", Sum.inr (Str.ofString "and"))] y = o)
    (h : E.nx (T3 t p x (some (.dat (.tup [d, .int n, .int (q : Int)]))) (some (.dat (o.elim .non cD))) o6)) : b3 E (T3 t p x (some (.dat (.tup [d, .int n, .int (q : Int)]))) o5 o6) := by
  simp [b3, at2, hs, z1000 ht, l]
  cases o with
  | none => exact h
  | some c => exact h
theorem b4_non {sp : DSp} (h : E.nx (T3 t p x o4 (some (.dat .non)) (some (.dat .non)))) : b4 sp E (T3 t p x o4 (some (.dat .non)) o6) := by
  simp [b4]
  exact h
theorem b4_call {sp : DSp} {d e : D} {n q : Int} {w : Str} (hc : sp [.st (.str t), .st (.int (q + 1))] (.st e)) (h : E.nx (T3 t p x (some (.dat (.tup [d, .int n, .int q]))) (some (.dat (.str w))) (some (.dat e)))) : b4 sp E (T3 t p x (some (.dat (.tup [d, .int n, .int q]))) (some (.dat (.str w))) o6) := by
  simp [b4, at2]
  exact ⟨_, hc, h⟩
theorem b5_non (h : E.rt (.st .non)) : b5 E (T3 t p x o4 o5 (some (.dat .non))) := by
  simp [b5]
  exact h
theorem b5_if {e : D} {m : Int} {q : Nat} {y : Str} (ht : t.length ≤ 1000) (hs : Txt.slice t (some (q : Int)) (some ((q : Int) + 1)) = y)
    (h : if y = Str.ofString ")" then E.nx (T3 t p x o4 o5 (some (.dat (.tup [e, .int m, .int (q : Int)])))) else E.rt (.st .non)) : b5 E (T3 t p x o4 o5 (some (.dat (.tup [e, .int m, .int (q : Int)])))) := by
  by_cases i : y = Str.ofString ")"
  · rw [if_pos i] at h
    have i' : (y == Str.ofString ")") = true := by simpa using i
    simp [b5, at2, hs, z1000 ht, bne, i']
    exact h
  · rw [if_neg i] at h
    have i' : (y == Str.ofString ")") = false := by simpa using i
    simp [b5, at2, hs, z1000 ht, bne, i']
    exact h
theorem b6_ok {d e : D} {n m q q' : Int} {w : Str} (h : E.rt (.st (.tup [.tup [.str w, d, e], .int (n + m + 1), .int (q' + 1)]))) : b6 E (T3 t p x (some (.dat (.tup [d, .int n, .int q]))) (some (.dat (.str w))) (some (.dat (.tup [e, .int m, .int q'])))) := by
  simp [b6, at0, atI1, at2, z3]
  exact h
end
theorem call_at {t : Str} {q k : Nat} {L : List Nat} (ht : t.length ≤ 1000) (hp : q + 1 ≤ t.length) (hk : t.length - (q + 1) < k) (hd : t.cps.toList.drop (q + 1) = L) : sp_at k [.st (.str t), .st (.int ((q : Int) + 1))] (.st (atD t (lat k L))) :=
  ⟨t, q + 1, ht, hp, hk, by rw [show (q : Int) + 1 = ((q + 1 : Nat) : Int) by omega], by rw [hd]⟩
theorem lone_ok {t x w : Str} {p k : Nat} {r : List Nat} {W : Sh → Sh} (hc : sp_at k [.st (.str t), .st (.int ((p : Int) + 1))] (.st (atD t (lat k r)))) (i : ¬ x = Str.ofString "(")
    (l : lkc [(Str.ofString "!", Sum.inr (Str.ofString "not")), (Str.ofString "*", Sum.inr (Str.ofString "many"))] x = some (.inr w)) (hW : ∀ a, (W a).toD = .tup [.str w, a.toD]) {E : DEnds} (hE : ∀ y, y = .st (atD t (lone W (lat k r))) → E.rt y) :
    B5 (sp_at k) E (T3 t p x none none none) := by
  refine sq (b0_ok hc ?_)
  cases e1 : lat k r with
  | none => rw [e1] at hE; exact sq (b1_yes (hE _ rfl))
  | some y =>
    obtain ⟨a, n, r1⟩ := y
    rw [e1] at hE
    refine sq (b1_no (sq (b2_yes i l (hE _ ?_))))
    simp only [lone, atD, hW]
    rfl
theorem betw_ok {t : Str} {p k : Nat} {r : List Nat} (ht : t.length ≤ 1000) (hp1 : p + 1 ≤ t.length) (p6 : t.cps.toList.drop (p + 1) = r) (pk : t.length - (p + 1) < k) {E : DEnds} (hE : ∀ y, y = .st (atD t (lbetw (lat k) (lat k r))) → E.rt y) :
    B5 (sp_at k) E (T3 t p (Str.ofString "(") none none none) := by
  refine sq (b0_ok (call_at ht hp1 pk p6) ?_)
  cases e1 : lat k r with
  | none => rw [e1] at hE; exact sq (b1_yes (hE _ rfl))
  | some y =>
    obtain ⟨a, n, r1⟩ := y
    rw [e1] at hE
    obtain ⟨p1, p2, p3, p4⟩ := lat_pos hp1 (by rw [p6]; exact e1)
    refine sq (b1_no (sq (b2_no (sq ?_))))
    generalize hP : t.length - r1.length = P1 at p1 p2 p3
    have sl := slice_1 p3
    cases r1 with
    | nil =>
      rw [at1_nil p2] at sl
      exact b3_ok ht sl (o := none) (by decide +kernel) (sq (b4_non (sq (b5_non (hE _ rfl)))))
    | cons d r2 =>
      obtain ⟨p5, p7⟩ := at1_of p2
      rw [p7] at sl
      cases ew : mkW d with
      | none =>
        have lb : lbetw (lat k) (some (a, n, d :: r2)) = none := by simp only [lbetw, ew]
        exact b3_ok ht sl (lkw_none ew) (sq (b4_non (sq (b5_non (hE _ (by rw [lb]; rfl))))))
      | some w =>
        obtain ⟨w0, w1⟩ := lkw_some ew
        have lb : lbetw (lat k) (some (a, n, d :: r2)) = lclose w a n (lat k r2) := by simp only [lbetw, ew]
        rw [lb] at hE
        have p8 : t.cps.toList.drop (P1 + 1) = r2 := by rw [← List.drop_drop, p2]; rfl
        refine b3_ok ht sl w0 (sq (b4_call (call_at ht p5 (by omega) p8) (sq ?_)))
        cases e3 : lat k r2 with
        | none => rw [e3] at hE; exact b5_non (hE _ rfl)
        | some y3 =>
          obtain ⟨b, m, r3⟩ := y3
          rw [e3] at hE
          obtain ⟨s1', s2', s3', s4'⟩ := lat_pos p5 (by rw [p8]; exact e3)
          have hP3 : ∃ P3, P3 = t.length - r3.length := ⟨_, rfl⟩
          obtain ⟨P3, hP3⟩ := hP3
          rw [← hP3] at s1' s2' s3'
          have sl3 := slice_1 s3'
          have eB : atD t (some (b, m, r3)) = .tup [b.toD, .int (m : Int), .int (P3 : Int)] := by simp only [atD, hP3]
          rw [eB]
          refine b5_if ht sl3 ?_
          cases r3 with
          | nil =>
            rw [at1_nil s2', if_neg (by decide +kernel)]
            exact hE _ rfl
          | cons d2 r4 =>
            rw [(at1_of s2').2]
            by_cases h41 : d2 = 41
            · subst h41
              rw [if_pos (show (⟨#[41]⟩ : Str) = Str.ofString ")" from rfl)]
              refine b6_ok (hE _ ?_)
              have hl4 : t.length - r4.length = P3 + 1 := by
                have := congrArg List.length s2'
                rw [List.length_drop, len_cps, List.length_cons] at this
                omega
              have : lclose w a n (some (b, m, 41 :: r4)) = some (w a b, n + m + 1, r4) := rfl
              rw [this]
              simp only [atD, w1, hl4]
              rfl
            · have : lclose w a n (some (b, m, d2 :: r4)) = none := by
                unfold lclose
                split
                · rename_i heq; cases heq; exact absurd rfl h41
                · rfl
              rw [if_neg (show ¬ (⟨#[d2]⟩ : Str) = Str.ofString ")" from chr_ne h41)]
              exact hE _ (by rw [this]; rfl)
theorem pk_of {n p k : Nat} (h : n - p < k + 1) (h1 : p < n) : n - (p + 1) < k := by omega
theorem hlen_of {t : Str} {p c : Nat} {r : List Nat} (hd : t.cps.toList.drop p = c :: r) : t.length - r.length = p + 1 := by
  have := congrArg List.length hd
  rw [List.length_drop, len_cps, List.length_cons] at this
  omega
theorem hlt_of {t : Str} {p c y : Nat} {r : List Nat} (hd : t.cps.toList.drop p = c :: r) (h : r.head? = some y) : ((t.length - r.tail.length : Nat) : Int) = (p : Int) + 2 := by
  have h1 := hlen_of hd
  have := head_cons h
  have : r.length = r.tail.length + 1 := by conv => lhs; rw [this]
                                            rfl
  have h2 := (at1_of hd).1
  omega
theorem rd_at (k : Nat) : ∀ rs r, rs.length = 2 → sp_at (k + 1) rs r → w_law_at (sp_at k) (Ends1 r) (startD N_law_at rs) := by
  rintro rs r _ ⟨t, p, ht, hp, hk, rfl, rfl⟩
  rw [at_eq]
  refine sq (a0_ok ht hp ?_)
  have s2 := s2_of hp
  show wSeq a1 _ (Ends1 (.st (atD t (latF (lat k) (t.cps.toList.drop p))))) (T3 t p (at1 t p) none none none)
  cases hd : t.cps.toList.drop p with
  | nil =>
    rw [at1_nil hd]
    rw [hd] at s2
    exact sq (a1_no (.inl rfl) (sq (a2_no ht s2 (by decide +kernel) (sq (a3_no ht s2 (by decide +kernel) (sq (a4_no (by decide +kernel) (sq (a5_no (by decide +kernel) rfl)))))))))
  | cons c r =>
    obtain ⟨hp1, a1⟩ := at1_of hd
    rw [a1]
    rw [hd] at s2
    have e2 : mkS ((c :: r).take 2) = mkS (c :: r.take 1) := rfl
    rw [e2] at s2
    have ne : ¬ (⟨#[c]⟩ : Str) = Str.ofString "" := fun z => by
      have := congrArg (fun s : Str => s.cps.toList.length) z
      cases this
    have i01 := in01 c
    have t1 := two_iff (c := c) (r := r) (x := Str.ofString "{" ++ Str.ofString "}") (d := 123) (e := 125) (by decide +kernel)
    have t2 := two_iff (c := c) (r := r) (x := Str.ofString "()") (d := 40) (e := 41) (by decide +kernel)
    have p6 : t.cps.toList.drop (p + 1) = r := by rw [← List.drop_drop, hd]; rfl
    have hlen := hlen_of hd
    by_cases h01 : c = 48 ∨ c = 49 ∨ c = 97 ∨ c = 98
    · rw [decide_eq_true h01] at i01
      refine sq (a1_yes ne i01 ?_)
      show R.st _ = R.st _
      simp only [latF, if_pos h01, atD, hlen]
      rfl
    rw [decide_eq_false h01] at i01
    refine sq (a1_no (.inr i01) ?_)
    by_cases h123 : c = 123
    · subst h123
      have lt : latF (lat k) (123 :: r) = if r.head? = some 125 then some (.none, 1, r.tail) else none := rfl
      rw [lt]
      by_cases hh : r.head? = some 125
      · refine sq (a2_yes ht s2 (t1.mpr ⟨rfl, hh⟩) ?_)
        show R.st _ = R.st _
        rw [if_pos hh, ← hlt_of hd hh]
        rfl
      · rw [if_neg hh]
        exact sq (a2_no ht s2 (fun z => hh (t1.mp z).2) (sq (a3_no ht s2 (fun z => absurd (t2.mp z).1 (by decide)) (sq (a4_no (by decide +kernel) (sq (a5_no (by decide +kernel) rfl)))))))
    refine sq (a2_no ht s2 (fun z => h123 (t1.mp z).1) ?_)
    by_cases h91 : c = 91
    · subst h91
      have lt : latF (lat k) (91 :: r) = lsg r := rfl
      rw [lt]
      exact sq (a3_no ht s2 (fun z => absurd (t2.mp z).1 (by decide)) (sq (a4_yes ht hp hd rfl)))
    have b3 : ¬ (⟨#[c]⟩ : Str) = Str.ofString "[" := chr_ne h91
    have pk := pk_of hk hp1
    by_cases h40 : c = 40
    · subst h40
      have lt : latF (lat k) (40 :: r) = if r.head? = some 41 then some (.empty, 1, r.tail) else lbetw (lat k) (lat k r) := rfl
      rw [lt]
      by_cases hh : r.head? = some 41
      · refine sq (a3_yes ht s2 (t2.mpr ⟨rfl, hh⟩) ?_)
        show R.st _ = R.st _
        rw [if_pos hh, ← hlt_of hd hh]
        rfl
      · rw [if_neg hh]
        exact sq (a3_no ht s2 (fun z => hh (t2.mp z).2) (sq (a4_no b3 (sq (a5_yes (by decide +kernel) (betw_ok ht hp1 p6 pk fun y h => h))))))
    refine sq (a3_no ht s2 (fun z => h40 (t2.mp z).1) (sq (a4_no b3 ?_)))
    by_cases h33 : c = 33
    · subst h33
      have lt : latF (lat k) (33 :: r) = lone .not (lat k r) := rfl
      rw [lt]
      exact sq (a5_yes (by decide +kernel) (lone_ok (call_at ht hp1 pk p6) (by decide +kernel) (w := Str.ofString "not") (by decide +kernel) (fun _ => rfl) fun y h => h))
    by_cases h42 : c = 42
    · subst h42
      have lt : latF (lat k) (42 :: r) = lone .many (lat k r) := rfl
      rw [lt]
      exact sq (a5_yes (by decide +kernel) (lone_ok (call_at ht hp1 pk p6) (by decide +kernel) (w := Str.ofString "many") (by decide +kernel) (fun _ => rfl) fun y h => h))
    have lt : latF (lat k) (c :: r) = none := by simp only [latF, if_neg h01, if_neg h123, if_neg h91, if_neg h33, if_neg h42, if_neg h40]
    rw [lt]
    refine sq (a5_no ?_ rfl)
    rw [inv3]
    refine decide_eq_false ?_
    rintro (z | z | z)
    · exact chr_ne h33 z
    · exact chr_ne h42 z
    · exact chr_ne h40 z
end K81
end
section
set_option maxRecDepth 100000
set_option maxHeartbeats 4000000
namespace K81
open PySem PySem.Spec PyProof.Rows L2 TK
theorem lk_none : lkp innerKV (Str.ofString "none") = some 0 := by decide +kernel
theorem lk_empty : lkp innerKV (Str.ofString "empty") = some 0 := by decide +kernel
theorem lk_sgns : lkp innerKV (Str.ofString "signs") = some 0 := by decide +kernel
theorem lk_then : lkp innerKV (Str.ofString "then") = some 2 := by decide +kernel
theorem lk_or : lkp innerKV (Str.ofString "or") = some 2 := by decide +kernel
theorem lk_and : lkp innerKV (Str.ofString "and") = some 2 := by decide +kernel
theorem lk_not : lkp innerKV (Str.ofString "not") = some 1 := by decide +kernel
theorem lk_many : lkp innerKV (Str.ofString "many") = some 1 := by decide +kernel
theorem cut1 {x : D} {r : List D} : cutL (x :: r) (some 1) none = r := by simp [cutL, HT.sIx]
noncomputable def kidsD (s : Sh) : List D := s.kids.map Sh.toD
noncomputable def sp_inner : DSp := fun rs r => ∃ s : Sh, rs = [.st s.toD] ∧ r = .nw (kidsD s)
theorem rd_inner : ∀ rs r, rs.length = 1 → sp_inner rs r → w_inner_shapes (Ends1 r) (startD N_inner_shapes rs) := by
  rintro rs r _ ⟨s, rfl, rfl⟩
  cases s <;> simp [w_inner_shapes, Sh.toD, at0, cut1, kidsD, Sh.kids, lk_none, lk_empty, lk_sgns, lk_then, lk_or, lk_and, lk_not, lk_many]
theorem join_cps (ys : List Str) : (Txt.join (Str.ofString "") ys).cps.toList = (ys.map (·.cps.toList)).flatten := by
  have e : Txt.join (Str.ofString "") ys = Str.join Str.empty ys := StrLaws.glued_eq_join _ _
  rw [e]
  have : ∀ ys : List Str, (Str.join Str.empty ys).cps.toList = (ys.map (·.cps.toList)).flatten := by
    intro ys
    induction ys with
    | nil => rfl
    | cons x r ih =>
      cases r with
      | nil => simp [Str.join]
      | cons y r =>
        show (x ++ Str.empty ++ Str.join Str.empty (y :: r)).cps.toList = _
        rw [Str.cps_append, Str.cps_append]
        simp only [Array.toList_append, ih]
        simp [Str.empty]
  exact this ys
noncomputable def sgT (s : Str) : Str := if s.length = 1 then s else "[" ++ s ++ "]"
noncomputable def pieces : Sh → List (Sum Str Sh)
  | .none => [.inl "{}"]
  | .empty => [.inl "()"]
  | .signs s => [.inl (sgT s)]
  | .not a => [.inl "!", .inr a]
  | .many a => [.inl "*", .inr a]
  | .thn a b => [.inl "(", .inr a, .inl " ", .inr b, .inl ")"]
  | .or a b => [.inl "(", .inr a, .inl "|", .inr b, .inl ")"]
  | .and a b => [.inl "(", .inr a, .inl "&", .inr b, .inl ")"]
noncomputable def itD : Sum Str Sh → D
  | .inl x => .str x
  | .inr s => s.toD
noncomputable def itL : Sum Str Sh → List Nat
  | .inl x => x.cps.toList
  | .inr s => wrL s
noncomputable def itW : Sum Str Sh → Nat
  | .inl _ => 1
  | .inr s => 6 * s.size
noncomputable def okI : Sum Str Sh → Prop
  | .inl _ => True
  | .inr s => okS s
theorem sgT_cps (s : Str) : (sgT s).cps.toList = wrL (.signs s) := by
  unfold sgT wrL
  split
  · rfl
  · rw [Str.cps_append, Str.cps_append]
    simp
    rfl
theorem pieces_L : ∀ s : Sh, ((pieces s).map itL).flatten = wrL s
  | .none => by decide
  | .empty => by decide
  | .signs s => by simp [pieces, itL, sgT_cps]
  | .not a => by simp [pieces, itL, wrL]; rfl
  | .many a => by simp [pieces, itL, wrL]; rfl
  | .thn a b => by simp [pieces, itL, wrL]; rfl
  | .or a b => by simp [pieces, itL, wrL]; rfl
  | .and a b => by simp [pieces, itL, wrL]; rfl
theorem pieces_W (s : Sh) : ((pieces s).map itW).sum + 1 ≤ 6 * s.size := by
  cases s <;> simp [pieces, itW, Sh.size] <;> omega
theorem pieces_len (s : Sh) : (pieces s).length ≤ 5 := by
  cases s <;> simp [pieces]
theorem pieces_ok : ∀ s : Sh, okS s → ∀ i ∈ pieces s, okI i
  | .none, _ => by simp [pieces, okI]
  | .empty, _ => by simp [pieces, okI]
  | .signs s, _ => by simp [pieces, okI]
  | .not a, h => by simp [pieces, okI]; exact h
  | .many a, h => by simp [pieces, okI]; exact h
  | .thn a b, h => by simp [pieces, okI]; exact h
  | .or a b, h => by simp [pieces, okI]; exact h
  | .and a b, h => by simp [pieces, okI]; exact h
noncomputable def sp_pieces : DSp := fun rs r => ∃ s : Sh, okS s ∧ rs = [.st s.toD] ∧ r = .nw ((pieces s).map itD)
noncomputable def pcT (sp_inner_shapes : DSp) : WS := (wSeq (wSet 2 (wCall sp_inner_shapes (wCons (wV 0) wNil))) (wSeq (wIfS (wMinC aheadKV (wV 1)) (wRet (wLst (wCons (wFz (wDsub aheadKV (wV 1))) (wCons (wFz (wOp ixD (wV 2) (wC (.int 0)))) wNil)))) wNext) (wRet (wLst (wCons (wFz (wC (.str "("))) (wCons (wFz (wOp ixD (wV 2) (wC (.int 0)))) (wCons (wFz (wDsub betweenKV (wV 1))) (wCons (wFz (wOp ixD (wV 2) (wC (.int 1)))) (wCons (wFz (wC (.str ")"))) wNil)))))))))
section
variable {E : DEnds} {w : Str} {ds : List D}
theorem pc_hd (g : wSeq (wIfS (wOp (eqD 60 false) (wV 1) (wC (.str "none"))) (wRet (wLst (wCons (wFz (wC (.str "{}"))) wNil))) wNext) (wSeq (wIfS (wOp (eqD 60 false) (wV 1) (wC (.str "empty"))) (wRet (wLst (wCons (wFz (wC (.str "()"))) wNil))) wNext) (wSeq (wIfS (wOp (eqD 60 false) (wV 1) (wC (.str "signs"))) (wRet (wLst (wCons (wFz (wIf (wOp (eqD 60 false) (wCB lenD (wCons (wOp ixD (wV 0) (wC (.int 1))) wNil)) (wC (.int 1))) (wOp ixD (wV 0) (wC (.int 1))) (wOp addD (wOp addD (wC (.str "[")) (wOp ixD (wV 0) (wC (.int 1)))) (wC (.str "]"))))) wNil))) wNext) (pcT sp_inner))) E [some (.dat (.tup (.str w :: ds))), some (.dat (.str w)), none]) :
    w_pieces_of sp_inner E (startD N_pieces_of [.st (.tup (.str w :: ds))]) :=
  setS (r := .st (.str w)) (s := .dat (.str w)) (fun Q h => by simp [at0]; exact h) (fun _ h => h) g
theorem eq_w {o0 o2 : Option Sl} {u : Str} {b : Bool} (hb : (w == u) = b) (Q : Bool → Prop) (h : Q b) : (wOp (eqD 60 false) (wV 1) (wC (.str u))) [o0, some (.dat (.str w)), o2] Q := by
  simp [hb]
  exact h
theorem pc_tl (h1 : (w == Str.ofString "none") = false) (h2 : (w == Str.ofString "empty") = false) (h3 : (w == Str.ofString "signs") = false) {ks : List D} (hi : sp_inner [.st (.tup (.str w :: ds))] (.nw ks))
    (g : (wSeq (wIfS (wMinC aheadKV (wV 1)) (wRet (wLst (wCons (wFz (wDsub aheadKV (wV 1))) (wCons (wFz (wOp ixD (wV 2) (wC (.int 0)))) wNil)))) wNext) (wRet (wLst (wCons (wFz (wC (.str "("))) (wCons (wFz (wOp ixD (wV 2) (wC (.int 0)))) (wCons (wFz (wDsub betweenKV (wV 1))) (wCons (wFz (wOp ixD (wV 2) (wC (.int 1)))) (wCons (wFz (wC (.str ")"))) wNil)))))))) E [some (.dat (.tup (.str w :: ds))), some (.dat (.str w)), some (.own ks)]) : w_pieces_of sp_inner E (startD N_pieces_of [.st (.tup (.str w :: ds))]) :=
  pc_hd (ifN (eq_w h1) (ifN (eq_w h2) (ifN (eq_w h3) (setS (r := .nw ks) (s := .own ks) (fun Q h => by simp; exact ⟨_, hi, h⟩) (fun _ h => h) g))))
theorem pc_one (h1 : (w == Str.ofString "none") = false) (h2 : (w == Str.ofString "empty") = false) (h3 : (w == Str.ofString "signs") = false) {a : D} {x : Str} (hi : sp_inner [.st (.tup (.str w :: ds))] (.nw [a])) (l : lkc aheadKV w = some (.inr x))
    (g : E.rt (.nw [.str x, a])) : w_pieces_of sp_inner E (startD N_pieces_of [.st (.tup (.str w :: ds))]) :=
  pc_tl h1 h2 h3 hi (ifY (fun Q h => by simp [l]; exact h) (by
    have z2 : (2 : Nat) ≤ sizeLine := by decide
    simp [l, cD, at0, z2]
    exact g))
theorem pc_two (h1 : (w == Str.ofString "none") = false) (h2 : (w == Str.ofString "empty") = false) (h3 : (w == Str.ofString "signs") = false) {a b : D} {x : Str} (hi : sp_inner [.st (.tup (.str w :: ds))] (.nw [a, b])) (l0 : lkc aheadKV w = none) (l : lkc betweenKV w = some (.inr x))
    (g : E.rt (.nw [.str "(", a, .str x, b, .str ")"])) : w_pieces_of sp_inner E (startD N_pieces_of [.st (.tup (.str w :: ds))]) :=
  pc_tl h1 h2 h3 hi (ifN (fun Q h => by simp [l0]; exact h) (by
    have z5 : (5 : Nat) ≤ sizeLine := by decide
    simp [l, cD, at0, atI1, z5]
    exact g))
end
theorem rd_pieces : ∀ rs r, rs.length = 1 → sp_pieces rs r → w_pieces_of sp_inner (Ends1 r) (startD N_pieces_of rs) := by
  rintro rs r _ ⟨s, ok, rfl, rfl⟩
  have z : ∀ m : Nat, m ≤ 100 → m ≤ sizeLine := fun m h => Nat.le_trans h (by decide)
  have z1 : (1 : Nat) ≤ sizeLine := z _ (by decide)
  cases s with
  | none => exact pc_hd (ifY (eq_w (by decide +kernel)) (by simp [z1]; exact ⟨rfl, z1⟩))
  | empty => exact pc_hd (ifN (eq_w (by decide +kernel)) (ifY (eq_w (by decide +kernel)) (by simp [z1]; exact ⟨rfl, z1⟩)))
  | signs s =>
    have hl := sg_len (show s ∈ sgList from ok)
    refine pc_hd (ifN (eq_w (by decide +kernel)) (ifN (eq_w (by decide +kernel)) (ifY (eq_w (by decide +kernel)) ?_)))
    by_cases h1 : s.length = 1
    · simp [atI1, pieces, itD, z1, h1, sgT]
    · have l1 : (Str.ofString "[").length = 1 := rfl
      have l2 : (Str.ofString "]").length = 1 := rfl
      have l3 : (Str.ofString "[" ++ s).length = s.length + 1 := by
        rw [← len_cps, Str.cps_append, Array.toList_append, List.length_append, len_cps, len_cps, l1]; omega
      have zz : s.length ≤ sizeLine := z _ (by omega)
      have zz1 : 1 + s.length ≤ sizeLine := z _ (by omega)
      have zz2 : s.length + 1 + 1 ≤ sizeLine := z _ (by omega)
      simp [atI1, pieces, itD, z1, h1, sgT, l1, l2, l3, zz, zz1, zz2]
      omega
  | not a => exact pc_one (by decide +kernel) (by decide +kernel) (by decide +kernel) ⟨.not a, rfl, rfl⟩ (x := "!") (by decide +kernel) rfl
  | many a => exact pc_one (by decide +kernel) (by decide +kernel) (by decide +kernel) ⟨.many a, rfl, rfl⟩ (x := "*") (by decide +kernel) rfl
  | thn a b => exact pc_two (by decide +kernel) (by decide +kernel) (by decide +kernel) ⟨.thn a b, rfl, rfl⟩ (by decide +kernel) (x := " ") (by decide +kernel) rfl
  | or a b => exact pc_two (by decide +kernel) (by decide +kernel) (by decide +kernel) ⟨.or a b, rfl, rfl⟩ (by decide +kernel) (x := "|") (by decide +kernel) rfl
  | and a b => exact pc_two (by decide +kernel) (by decide +kernel) (by decide +kernel) ⟨.and a b, rfl, rfl⟩ (by decide +kernel) (x := "&") (by decide +kernel) rfl
noncomputable def wrB : WS := (wSeq (wPop 2 (gNm 3)) (wIfS (wTru (wIsi "str" (wV 3))) (wAppend 1 (wFz (wV 3))) (wExtend 2 (wRevL (wCall sp_pieces (wCons (wV 3) wNil))))))
theorem toD_tup (s : Sh) : ∃ ds, s.toD = .tup ds := by cases s <;> exact ⟨_, rfl⟩
theorem wr_loop {E : DEnds} {o0 : Option Sl} : ∀ (n : Nat) (st : List (Sum Str Sh)) (ys : List Str) (o3 : Option Sl), (st.map itW).sum < n → ys.length + 10 * (st.map itW).sum + st.length ≤ 2000 → (∀ i ∈ st, okI i) →
    (∀ zs o3, (zs.map fun z : Str => z.cps.toList).flatten = (st.map itL).flatten → zs.length ≤ (st.map itW).sum → E.nx [o0, some (.own ((ys ++ zs).map D.str)), some (.own []), o3]) →
    whileN (wTru (wV 2)) wrB n E [o0, some (.own (ys.map D.str)), some (.own (st.map itD).reverse), o3]
  | 0, st, ys, o3, h, _, _, _ => absurd h (Nat.not_lt_zero _)
  | n + 1, [], ys, o3, h, hz, ok, he => by
    have := he [] o3 rfl (Nat.zero_le _)
    rw [List.append_nil] at this
    simp [whileN]
    exact this
  | n + 1, .inl x :: r, ys, o3, h, hz, ok, he => by
    simp only [List.map_cons, List.sum_cons, itW, List.length_cons] at h hz
    have zl : ys.length < sizeLine := Nat.lt_of_lt_of_le (show ys.length < 3000 by omega) (by decide)
    have e : (ys.map D.str) ++ [D.str x] = (ys ++ [x]).map D.str := by simp
    rw [whileN]
    simp [wrB, itD, isiB, zl]
    have ih := wr_loop (E := E) (o0 := o0) n r (ys ++ [x]) (some (.dat (.str x))) (by omega) (by simp; omega) (fun i hi => ok i (List.mem_cons_of_mem _ hi)) (fun zs o3 h1 h2 => by
      have := he (x :: zs) o3 (by simp [h1, itL]) (by simp [itW]; omega)
      simpa using this)
    simpa [wrB] using ih
  | n + 1, .inr s :: r, ys, o3, h, hz, ok, he => by
    have w1 := pieces_W s
    have w2 := pieces_len s
    simp only [List.map_cons, List.sum_cons, itW, List.length_cons] at h hz
    obtain ⟨ds, e⟩ := toD_tup s
    have hs : okS s := ok _ List.mem_cons_self
    have sp := size_pos s
    have zl : r.length + (pieces s).length ≤ sizeLine := Nat.le_trans (show r.length + (pieces s).length ≤ 3000 by omega) (by decide)
    rw [whileN]
    simp [wrB, itD, e, isiB]
    refine ⟨_, ⟨s, hs, by rw [e], rfl⟩, ?_⟩
    simp [zl]
    have ih := wr_loop (E := E) (o0 := o0) n (pieces s ++ r) ys (some (.dat (.tup ds))) (by simp; omega) (by simp; omega)
      (fun i hi => by
        rcases List.mem_append.mp hi with hi | hi
        · exact pieces_ok s hs i hi
        · exact ok i (List.mem_cons_of_mem _ hi)) (fun zs o3 h1 h2 => he zs o3 (by
          rw [h1]; simp [itL, pieces_L]) (by simp at h2; simp [itW]; omega))
    simpa [wrB] using ih
noncomputable def sp_written : DSp := fun rs r => ∃ s : Sh, okS s ∧ s.size ≤ 15 ∧ rs = [.st s.toD] ∧ r = .st (.str ⟨(wrL s).toArray⟩)
theorem sum_len : ∀ zs : List Str, (zs.map (·.length)).sum = ((zs.map fun z : Str => z.cps.toList).flatten).length
  | [] => rfl
  | z :: r => by simp only [List.map_cons, List.sum_cons, List.flatten_cons, List.length_append, len_cps, sum_len r]
theorem rd_written : ∀ rs r, rs.length = 1 → sp_written rs r → w_written sp_pieces (Ends1 r) (startD N_written rs) := by
  rintro rs r _ ⟨s, ok, sz, rfl, rfl⟩
  have hl := wrL_len s ok
  have z1 : (1 : Nat) ≤ sizeLine := by decide
  simp [w_written, z1]
  refine ⟨_, wr_loop (6 * s.size + 1) [.inr s] [] none (by simp [itW]) (by simp [itW]; omega) (by simp [okI]; exact ok) fun zs o3 h1 h2 => ?_⟩
  simp [itW, itL] at h1 h2
  have l0 : (Str.ofString "").length = 0 := rfl
  have hs := sum_len zs
  rw [h1] at hs
  simp
  refine ⟨zs, strsOf_map zs, ?_, ?_⟩
  · rw [l0, hs]; omega
  · apply str_of
    rw [join_cps, h1]
noncomputable def readO (CN : Addr) : Option (Sh × List Nat × Nat) → Out
  | some (s, [], _) => .ok (.st s.toD)
  | _ => .ex CN
noncomputable def sp_read (CN : Addr) : DSpX := fun rs o => ∃ t : Str, t.length ≤ 1000 ∧ rs = [.st (.str t)] ∧ o = readO CN (rdS 16 t.cps.toList 15)
theorem rd_read {C CN : Addr} : ∀ rs o, rs.length = 1 → sp_read CN rs o → w_read C CN msp_init (msp_shape CN 16) msp_sign (XEof o) (EndsO o) (startD N_read rs) := by
  rintro rs o _ ⟨t, ht, rfl, ho⟩
  simp [w_read]
  refine ⟨_, ⟨t, rfl, rfl, rfl, rfl⟩, ?_⟩
  refine ⟨lk_shape, _, ⟨t, 0, 15, ht, Nat.zero_le _, by decide, rfl, rfl, rfl⟩, ?_⟩
  rw [List.drop_zero]
  cases e : rdS 16 t.cps.toList 15 with
  | none => rw [e] at ho; subst ho; simp [outS, readO]
  | some x =>
    obtain ⟨s, r, q⟩ := x
    obtain ⟨p1, p2, p3, p4, p5⟩ := out_pos (t := t) (p := 0) (sound_rd 16) (Nat.zero_le _) (by rw [List.drop_zero]; exact e)
    rw [e] at ho
    cases r with
    | nil =>
      subst ho
      simp [outS, readO]
      refine ⟨_, _, ⟨t, t.length, _, Nat.le_refl _, ht, rfl, rfl, rfl, rfl⟩, ?_⟩
      have : at1 t t.length = Str.ofString "" := at1_nil (by simpa using p2)
      simp [this]
    | cons c r =>
      generalize hP : t.length - (c :: r).length = P at p1 p2 p3
      have ho : o = .ex CN := ho
      subst ho
      have hP' : t.length - (r.length + 1) = P := hP
      simp [outS, hP']
      refine ⟨_, _, ⟨t, P, _, p3, ht, rfl, rfl, rfl, rfl⟩, ?_⟩
      have ne : ¬ at1 t P = Str.ofString "" := by
        rw [(at1_of p2).2]
        intro z
        have := congrArg (fun s : Str => s.cps.toList.length) z
        cases this
      have pb : (P : Int) ≤ 1100 := by omega
      simp [ne, pb]
noncomputable def toldS (L : List Nat) : Option Sh := match rdS 16 L 15 with
  | some (s, [], _) => some s
  | _ => none
noncomputable def dueS (L : List Nat) : Option Sh := match lat 200 L with
  | some (s, n, []) => if n ≤ 15 then some s else none
  | _ => none
theorem told_some {L : List Nat} {s : Sh} (h : toldS L = some s) : okS s ∧ L = wrL s ∧ s.size ≤ 15 := by
  unfold toldS at h
  split at h
  · rename_i s' q heq
    cases h
    obtain ⟨h1, h2, h3⟩ := sound_rd 16 _ _ _ _ _ heq
    exact ⟨h1, by rw [h2, List.append_nil], by omega⟩
  · cases h
theorem due_some {L : List Nat} {s : Sh} (h : dueS L = some s) : okS s ∧ L = wrL s ∧ s.size ≤ 15 := by
  unfold dueS at h
  split at h
  · rename_i s' n heq
    split at h
    · cases h
      obtain ⟨h1, h2, h3⟩ := lsound 200 _ _ _ _ heq
      exact ⟨h1, by rw [h2, List.append_nil], by omega⟩
    · cases h
  · cases h
theorem both_of {L : List Nat} {s : Sh} (hl : L.length < 200) (h1 : okS s) (h2 : L = wrL s) (h3 : s.size ≤ 15) : toldS L = some s ∧ dueS L = some s := by
  have a := rd_of s 16 15 [] h1 h3 (by decide)
  have b := lat_of s 200 [] h1 (by rw [List.append_nil, ← h2]; exact hl)
  rw [List.append_nil, ← h2] at a b
  constructor
  · unfold toldS; rw [a]
  · unfold dueS; rw [b]; dsimp only; rw [if_pos h3]
theorem due_told {L : List Nat} (hl : L.length < 200) : dueS L = toldS L := by
  cases e : toldS L with
  | some s => obtain ⟨h1, h2, h3⟩ := told_some e; exact (both_of hl h1 h2 h3).2
  | none =>
    cases e2 : dueS L with
    | none => rfl
    | some s => obtain ⟨h1, h2, h3⟩ := due_some e2; rw [(both_of hl h1 h2 h3).1] at e; cases e
noncomputable def optD : Option Sh → D
  | some s => s.toD
  | none => .non
noncomputable def sp_told : DSp := fun rs r => ∃ t : Str, t.length ≤ 1000 ∧ rs = [.st (.str t)] ∧ r = .st (optD (toldS t.cps.toList))
theorem rd_told {CN : Addr} : ∀ rs r, rs.length = 1 → sp_told rs r → w_law_told CN (sp_read CN) (Ends1 r) (startD N_law_told rs) := by
  rintro rs r _ ⟨t, ht, rfl, rfl⟩
  have z3 : (3 : Nat) ≤ sizeLine := by decide
  unfold w_law_told wTry toldS
  cases e : rdS 16 t.cps.toList 15 with
  | none =>
    refine ⟨fun c => c = CN, fun c h => h, ?_, fun c a hc => ?_⟩
    · simp [wb_law_told]
      refine ⟨_, ⟨t, ht, rfl, rfl⟩, ?_⟩
      rw [e]
      simp [readO]
    · simp [wh_law_told, z3, noneD, N_law_told, D.depth, D.depths, D.eqs, D.eq, optD]
  | some x =>
    obtain ⟨s, r, q⟩ := x
    cases r with
    | nil =>
      refine ⟨fun c => False, fun c h => h.elim, ?_, fun c a hc => hc.elim⟩
      simp [wb_law_told]
      refine ⟨_, ⟨t, ht, rfl, rfl⟩, ?_⟩
      rw [e]
      simp [readO, optD]
    | cons c r =>
      refine ⟨fun c => c = CN, fun c h => h, ?_, fun c a hc => ?_⟩
      · simp [wb_law_told]
        refine ⟨_, ⟨t, ht, rfl, rfl⟩, ?_⟩
        rw [e]
        simp [readO]
      · simp [wh_law_told, z3, noneD, N_law_told, D.depth, D.depths, D.eqs, D.eq, optD]
end K81
end
section
set_option maxRecDepth 100000
set_option maxHeartbeats 4000000
namespace K81
open PySem PySem.Spec PyProof.Rows L2 TK
theorem high_size : ∀ s : Sh, s.high < s.size := by
  intro s
  induction s <;> simp [Sh.high, Sh.size] <;> omega
noncomputable def lawB : WS := (wSeq (wSet 6 (wCall (sp_at 200) (wCons (wV 5) (wCons (wC (.int 0)) wNil)))) (wSeq (wIfS (wAnd (wOp (isND true) (wV 6) (wC .non)) (wOr (wOp (cmpI fun i j => decide (j < i)) (wOp ixD (wV 6) (wC (.int 1))) (wC (.int 15))) (wOp neD (wOp ixD (wV 6) (wC (.int 2))) (wCB lenD (wCons (wV 5) wNil))))) (wSet 6 (wC .non)) wNext) (wSeq (wSet 7 (wCall sp_told (wCons (wV 5) wNil))) (wIfS (wOr (wOp (eqD 59 true) (wV 7) (wIf (wOp (isND false) (wV 6) (wC .non)) (wC .non) (wOp ixD (wV 6) (wC (.int 0))))) (wAnd (wOp (isND true) (wV 7) (wC .non)) (wOp neD (wCall sp_written (wCons (wV 7) wNil)) (wV 5)))) (wRet (wC (.bl false))) wNext))))
noncomputable def lawC : WS := (wSeq (wSet 7 (wCall sp_told (wCons (wV 5) wNil))) (wIfS (wOr (wOp (eqD 59 true) (wV 7) (wIf (wOp (isND false) (wV 6) (wC .non)) (wC .non) (wOp ixD (wV 6) (wC (.int 0))))) (wAnd (wOp (isND true) (wV 7) (wC .non)) (wOp neD (wCall sp_written (wCons (wV 7) wNil)) (wV 5)))) (wRet (wC (.bl false))) wNext))
theorem step_c {x : Str} (hx : x.length < 200) {E : DEnds} {o0 o1 o2 o3 o4 o7 : Option Sl} (h : ∀ o6 o7, E.nx [o0, o1, o2, o3, o4, some (.dat (.str x)), o6, o7]) {dd : D}
    (hd : (dueS x.cps.toList = none ∧ dd = .non) ∨ ∃ s i j, dueS x.cps.toList = some s ∧ dd = .tup [s.toD, i, j]) :
    lawC E [o0, o1, o2, o3, o4, some (.dat (.str x)), some (.dat dd), o7] := by
  have hl : x.cps.toList.length < 200 := by rw [len_cps]; exact hx
  have dt := due_told hl
  simp [lawC]
  refine ⟨_, ⟨x, by omega, rfl, rfl⟩, ?_⟩
  rcases hd with ⟨h1, rfl⟩ | ⟨s, i, j, h1, rfl⟩
  · rw [← dt, h1]
    simp [optD, D.depth, D.eq]
    exact h _ _
  · rw [← dt, h1]
    obtain ⟨h2, h3, h4⟩ := due_some h1
    have dp := dep_le (s := s) (by have := high_size s; omega)
    obtain ⟨ds, eds⟩ := toD_tup s
    simp [optD, at0, dp, D.eq_refl]
    have nn : isND true (.st s.toD) (.st .non) = fun Q => Q true := by
      funext Q
      rw [eds]
      simp
    rw [eds] at nn ⊢
    simp
    refine ⟨_, ⟨s, h2, h4, by rw [eds], rfl⟩, ?_⟩
    have ex : (⟨(wrL s).toArray⟩ : Str) = x := str_of h3.symm
    rw [ex]
    simp
    exact h _ _
theorem step_b {x : Str} (hx : x.length < 200) {E : DEnds} {o0 o1 o2 o3 o4 o6 o7 : Option Sl} (h : ∀ o6 o7, E.nx [o0, o1, o2, o3, o4, some (.dat (.str x)), o6, o7]) :
    lawB E [o0, o1, o2, o3, o4, some (.dat (.str x)), o6, o7] := by
  have hl : x.cps.toList.length < 200 := by rw [len_cps]; exact hx
  have zx : x.length ≤ sizeLine := z1000 (by omega)
  show (wSeq (wSet 6 (wCall (sp_at 200) (wCons (wV 5) (wCons (wC (.int 0)) wNil)))) (wSeq (wIfS (wAnd (wOp (isND true) (wV 6) (wC .non)) (wOr (wOp (cmpI fun i j => decide (j < i)) (wOp ixD (wV 6) (wC (.int 1))) (wC (.int 15))) (wOp neD (wOp ixD (wV 6) (wC (.int 2))) (wCB lenD (wCons (wV 5) wNil))))) (wSet 6 (wC .non)) wNext) lawC)) E _
  simp
  refine ⟨_, ⟨x, 0, by omega, Nat.zero_le _, by omega, rfl, rfl⟩, ?_⟩
  rw [List.drop_zero]
  cases e : lat 200 x.cps.toList with
  | none =>
    simp [atD]
    exact step_c hx h (.inl ⟨by simp [dueS, e], rfl⟩)
  | some y =>
    obtain ⟨s, n, r⟩ := y
    have hs := (lsound 200 _ _ _ _ e).2.1
    have hlen : x.length = (wrL s).length + r.length := by
      have := congrArg List.length hs
      rw [len_cps, List.length_append] at this
      exact this
    simp [atD, atI1, at2, zx]
    by_cases hn : 15 < n
    · have hd : dueS x.cps.toList = none := by
        unfold dueS
        rw [e]
        cases r with
        | nil => dsimp only; rw [if_neg (by omega)]
        | cons c r => rfl
      rw [if_pos (by omega)]
      exact step_c hx h (.inl ⟨hd, rfl⟩)
    · rw [if_neg (by omega)]
      cases r with
      | nil =>
        have hd : dueS x.cps.toList = some s := by
          unfold dueS
          rw [e]
          dsimp only
          rw [if_pos (by omega)]
        rw [if_pos (by simp)]
        exact step_c hx h (.inr ⟨s, _, _, hd, rfl⟩)
      | cons c r =>
        have hd : dueS x.cps.toList = none := by unfold dueS; rw [e]
        rw [List.length_cons] at hlen
        rw [if_neg (by rw [List.length_cons]; omega)]
        exact step_c hx h (.inl ⟨hd, rfl⟩)
theorem law_loop {E : DEnds} {o0 o1 o2 o3 o4 : Option Sl} : ∀ (xs : List Str) (o5 o6 o7 : Option Sl), (∀ x ∈ xs, x.length < 200) → (∀ o5 o6 o7, E.nx [o0, o1, o2, o3, o4, o5, o6, o7]) → forW (gNm 5) lawB E (xs.map D.str) [o0, o1, o2, o3, o4, o5, o6, o7]
  | [], o5, o6, o7, _, h => h _ _ _
  | x :: xs, o5, o6, o7, hx, h => by
    simp only [List.map_cons, forW]
    show lawB _ [o0, o1, o2, o3, o4, some (.dat (.str x)), o6, o7]
    refine step_b (hx x List.mem_cons_self) fun o6 o7 => ?_
    exact law_loop xs _ _ _ (fun y hy => hx y (List.mem_cons_of_mem _ hy)) h
theorem at_lt {l : List Nat} {i : Int} (h0 : 0 ≤ i) (h1 : i < (l.length : Int)) : ∃ c, atI l i = some c := by
  obtain ⟨d, _, h⟩ := atI_lt l h0 h1
  exact ⟨d, h⟩
theorem sl_to {t : Str} {k : Nat} (h : k ≤ t.length) : (Txt.slice t none (some (k : Int))).length = k := by
  rw [← len_cps, slice_to h, List.length_take, len_cps]; omega
theorem sl_from {t : Str} {k : Nat} (h : k ≤ t.length) : (Txt.slice t (some (k : Int)) none).length = t.length - k := by
  rw [← len_cps, slice_from h, List.length_drop, len_cps]
theorem sl_from_le (t : Str) (k : Int) : (Txt.slice t (some k) none).length ≤ t.length := Txt.slice_le t _ _
noncomputable def sp_law : DSp := fun rs r => ∃ ns : List Int, rs = [.st (scr ns)] ∧ ns.length ≤ 63 ∧ r = .st (.bl true)
noncomputable def sixD : List D := [.str "", .str (repS "!" 16 ++ "a"), .str (repS "!" 14 ++ "a"), .str (repS "!" 15 ++ "a"), .str "[]", .str "(a b"]
theorem six_str : ∀ d ∈ sixD, ∃ x : Str, d = .str x ∧ x.length < 200 := by
  intro d hd
  simp only [sixD, List.mem_cons, List.not_mem_nil, or_false] at hd
  rcases hd with rfl | rfl | rfl | rfl | rfl | rfl
  · exact ⟨_, rfl, by decide +kernel⟩
  · exact ⟨_, rfl, by decide +kernel⟩
  · exact ⟨_, rfl, by decide +kernel⟩
  · exact ⟨_, rfl, by decide +kernel⟩
  · exact ⟨_, rfl, by decide +kernel⟩
  · exact ⟨_, rfl, by decide +kernel⟩
theorem rd_law : ∀ rs r, rs.length = 1 → sp_law rs r → w_law sp_written (sp_shape 4) sp_drawn (sp_at 200) sp_told (Ends1 r) (startD N_law rs) := by
  rintro rs r - ⟨ns, rfl, hn, rfl⟩
  obtain ⟨s, s1, so, s2⟩ := shape_ex ns hn 4 1 2 (by decide) (by decide)
  have sz := size_le (s := s) (n := 2) (by omega)
  have sl := wrL_len s so
  have hb : ∃ T : Str, T = ⟨(wrL s).toArray⟩ ∧ T.length ≤ 42 := ⟨_, rfl, by
    have : (⟨(wrL s).toArray⟩ : Str).length = (wrL s).length := by rw [← len_cps]
    omega⟩
  obtain ⟨T, eT, hT⟩ := hb
  have z : ∀ m : Nat, m ≤ 1000 → m ≤ sizeLine := fun m h => Nat.le_trans h (by decide)
  simp [w_law]
  refine ⟨_, s2, ?_⟩
  simp
  refine ⟨_, ⟨s, so, by omega, rfl, rfl⟩, ?_⟩
  rw [← eT]
  simp [z _ (show T.length ≤ 1000 by omega)]
  refine ⟨_, ⟨ns, 200, (T.length : Int) + 1, rfl, hn, by omega, rfl⟩, ?_⟩
  have d0 := drawn_nn ns 200 (m := (T.length : Int) + 1) (by omega)
  have d1 := drawn_lt ns 200 (m := (T.length : Int) + 1) (by omega)
  generalize drawnF ns 200 ((T.length : Int) + 1) = A at d0 d1
  obtain ⟨k, rfl⟩ : ∃ k : Nat, A = (k : Int) := ⟨A.toNat, by omega⟩
  simp
  refine ⟨_, ⟨ns, 201, 16, rfl, hn, by decide, rfl⟩, ?_⟩
  have g0 := drawn_nn ns 201 (m := 16) (by decide)
  have g1 := drawn_lt ns 201 (m := 16) (by decide)
  generalize drawnF ns 201 16 = B at g0 g1
  have l16 : (Str.ofString "01ab()[]!*|& {}x").cps.toList.length = 16 := by decide +kernel
  obtain ⟨c, hc⟩ := at_lt (l := (Str.ofString "01ab()[]!*|& {}x").cps.toList) g0 (by rw [l16]; exact g1)
  have lc : (⟨#[c]⟩ : Str).length = 1 := rfl
  have zz : (Str.ofString "01ab()[]!*|& {}x").length ≤ sizeLine := by decide +kernel
  have hk : k ≤ T.length := by omega
  have a1 := sl_to hk
  have a2 := sl_from hk
  have a3 := sl_from_le T ((k : Int) + 1)
  have b1 := len_ap (Txt.slice T none (some (k : Int))) ⟨#[c]⟩
  have b2 := len_ap (Txt.slice T none (some (k : Int)) ++ ⟨#[c]⟩) (Txt.slice T (some (k : Int)) none)
  have b3 := len_ap (Txt.slice T none (some (k : Int))) (Txt.slice T (some ((k : Int) + 1)) none)
  have b4 := len_ap (Txt.slice T none (some (k : Int)) ++ ⟨#[c]⟩) (Txt.slice T (some ((k : Int) + 1)) none)
  have c1 := len_ap (Str.ofString "(") T
  have c2 := len_ap (Str.ofString "(" ++ T) (Str.ofString "|")
  have c3 := len_ap (Str.ofString "(" ++ T ++ Str.ofString "|") T
  have c4 := len_ap (Str.ofString "(" ++ T ++ Str.ofString "|" ++ T) (Str.ofString ")")
  have e1 : (Str.ofString "(").length = 1 := rfl
  have e2 : (Str.ofString ")").length = 1 := rfl
  have e3 : (Str.ofString "|").length = 1 := rfl
  have e4 : (Str.ofString "!").length = 1 := rfl
  have e5 : (Str.ofString "a").length = 1 := rfl
  have r16 : (repS (Str.ofString "!") 16).length = 16 := by decide +kernel
  have r14 : (repS (Str.ofString "!") 14).length = 14 := by decide +kernel
  have r15 : (repS (Str.ofString "!") 15).length = 15 := by decide +kernel
  obtain ⟨d6, hd6, hat⟩ := atI_lt sixD (i := (k : Int) % 6) (by omega) (by show (k : Int) % 6 < 6; omega)
  obtain ⟨x6, rfl, hx6⟩ := six_str d6 hd6
  refine ⟨zz, c, hc, ?_⟩
  simp only [o_sto1, o_rd1, o_add2]
  refine ⟨z _ (by omega), z _ (by omega), z _ (by omega), z _ (by omega), z _ (by omega), z _ (by omega), z _ (by omega), z _ (by omega), z _ (by omega), z _ (by omega), Nat.lt_of_lt_of_le (by decide : 3 < 1000) (z _ (by omega)), by omega, by omega, z _ (by omega), by omega, by omega, z _ (by omega), by omega, by omega, z _ (by omega), z _ (by omega), _, hat, Nat.lt_of_lt_of_le (by decide : 4 < 1000) (z _ (by omega)), z _ (by omega), z _ (by omega), ?_⟩
  refine law_loop [Txt.slice T none (some (k : Int)) ++ ⟨#[c]⟩ ++ Txt.slice T (some (k : Int)) none, Txt.slice T none (some (k : Int)) ++ Txt.slice T (some ((k : Int) + 1)) none, Txt.slice T none (some (k : Int)) ++ ⟨#[c]⟩ ++ Txt.slice T (some ((k : Int) + 1)) none, Str.ofString "(" ++ T ++ Str.ofString "|" ++ T ++ Str.ofString ")", x6, T] _ _ _ (fun x hx => ?_) fun o5 o6 o7 => ?_
  · simp only [List.mem_cons, List.not_mem_nil, or_false] at hx
    rcases hx with rfl | rfl | rfl | rfl | rfl | rfl
    · omega
    · omega
    · omega
    · omega
    · exact hx6
    · omega
  · simp
end K81
end
section
set_option maxRecDepth 100000
set_option maxHeartbeats 4000000
namespace K81
open PySem PySem.Spec PyProof.Rows L2 TK
section
variable {P : Program} {w : World} {K : PySem.W.Frag} {mg : Str → Option Value} {base : Heap}
theorem fn_none {f : Addr} {fd : FuncData} {ps : List Str} {sp : DSp} {k : Nat} (h : ∀ rs r, ¬ sp rs r) : FnD P w K mg base k f fd ps sp := by
  have no : ∀ vs H Q E, ¬ liftSp K ps.length sp vs H Q E := fun vs H Q E ⟨rs, r, _, _, _, q, _⟩ => h _ _ q
  exact ⟨fun vs H Q E q => absurd q (no vs H Q E), fun A outer s H args us vs Q E _ _ _ _ q => absurd q (no vs H Q E)⟩
theorem fn_noneMX {f C : Addr} {fd : FuncData} {ps : List Str} {sp : MSpX} {k n : Nat} (h : ∀ fs rs o, ¬ sp fs rs o) : FnMX P w K mg base k f fd ps C n sp := by
  have no : ∀ vs H Q E, ¬ liftSpMX K C n sp vs H Q E := by
    rintro vs H Q E ⟨_, _, _, _, _, _, _, _, _, _, _, _, _, q, _⟩
    exact h _ _ _ q
  exact ⟨fun vs H Q E q => absurd q (no vs H Q E), fun A outer s H args us vs Q E _ _ _ _ q => absurd q (no vs H Q E)⟩
theorem law_shape_all {a_law_drawn : Addr} {fd_law_drawn : FuncData} (D_law_drawn : Df K mg "_law_drawn" (top 24) ["_law_script", "_law_k", "_law_many"] a_law_drawn fd_law_drawn) (G_law_drawn : FnD P w K mg base 2 a_law_drawn fd_law_drawn ["_law_script", "_law_k", "_law_many"] sp_drawn) {f : Addr} {fd : FuncData} (T : Txt K mg w) (D : Df K mg "_law_shape" st_law_shape ["_law_script", "_law_at_here", "_law_deep"] f fd) : ∀ k : Nat, FnD P w K mg base (k + 2) f fd ["_law_script", "_law_at_here", "_law_deep"] (sp_shape k)
  | 0 => fn_none fun rs r h => h
  | k + 1 => ok_law_shape (k := k + 2) D_law_drawn G_law_drawn (by omega) D (law_shape_all D_law_drawn G_law_drawn T D k) (Nat.le_refl _) T D fun rs r _ h => h
theorem law_at_all  {f : Addr} {fd : FuncData} (T : Txt K mg w) (D : Df K mg "_law_at" st_law_at ["_law_text_here", "_law_place"] f fd) : ∀ k : Nat, FnD P w K mg base (k + 1) f fd ["_law_text_here", "_law_place"] (sp_at k)
  | 0 => fn_none fun rs r ⟨_, _, _, _, h, _⟩ => absurd h (Nat.not_lt_zero _)
  | k + 1 => ok_law_at (k := k + 1) D (law_at_all  T D k) (Nat.le_refl _) T D (rd_at k)
theorem reader_all {C_Reader : Addr} (Z_Reader : Cl_Reader K mg C_Reader) {C_NoWriting : Addr} (O_NoWriting : OwnCls "NoWriting" C_NoWriting mroV "ValueError.__new__" mg base) {a_Reader_sign_here : Addr} {fd_Reader_sign_here : FuncData} (D_Reader_sign_here : DfM K "sign_here" "Reader.sign_here" (inClass (top 15) 1) ["self"] a_Reader_sign_here fd_Reader_sign_here) (M_Reader_sign_here : Meth K C_Reader "sign_here" a_Reader_sign_here) (G_Reader_sign_here : FnM P w K mg base 1 a_Reader_sign_here fd_Reader_sign_here ["self"] C_Reader 0 msp_sign) {a_Reader_take_one_of : Addr} {fd_Reader_take_one_of : FuncData} (D_Reader_take_one_of : DfM K "take_one_of" "Reader.take_one_of" (inClass (top 15) 2) ["self", "some"] a_Reader_take_one_of fd_Reader_take_one_of) (M_Reader_take_one_of : Meth K C_Reader "take_one_of" a_Reader_take_one_of) (G_Reader_take_one_of : FnMX P w K mg base 2 a_Reader_take_one_of fd_Reader_take_one_of ["self", "some"] C_Reader 1 (msp_take C_NoWriting)) {a_Reader_read_signs : Addr} {fd_Reader_read_signs : FuncData} (D_Reader_read_signs : DfM K "read_signs" "Reader.read_signs" (inClass (top 15) 4) ["self"] a_Reader_read_signs fd_Reader_read_signs) (M_Reader_read_signs : Meth K C_Reader "read_signs" a_Reader_read_signs) (G_Reader_read_signs : FnMX P w K mg base 3 a_Reader_read_signs fd_Reader_read_signs ["self"] C_Reader 0 (msp_signs C_NoWriting))
    {a_s a_b : Addr} {fd_s fd_b : FuncData} (D_s : DfM K "read_shape" "Reader.read_shape" st_Reader_read_shape ["self"] a_s fd_s) (M_s : Meth K C_Reader "read_shape" a_s) (D_b : DfM K "read_in_brackets" "Reader.read_in_brackets" st_Reader_read_in_brackets ["self"] a_b fd_b) (M_b : Meth K C_Reader "read_in_brackets" a_b) (T : Txt K mg w) :
    ∀ k : Nat, FnMX P w K mg base (2 * k + 4) a_s fd_s ["self"] C_Reader 0 (msp_shape C_NoWriting k) ∧ FnMX P w K mg base (2 * k + 5) a_b fd_b ["self"] C_Reader 0 (msp_br C_NoWriting k) := by
  intro k
  induction k with
  | zero =>
    have h0 : FnMX P w K mg base (2 * 0 + 4) a_s fd_s ["self"] C_Reader 0 (msp_shape C_NoWriting 0) := fn_noneMX fun fs rs o ⟨_, _, _, _, _, h, _⟩ => absurd h (Nat.not_lt_zero _)
    exact ⟨h0, ok_Reader_read_in_brackets Z_Reader (k := 4) D_Reader_sign_here M_Reader_sign_here G_Reader_sign_here (by omega) D_s M_s h0 (by omega) D_Reader_take_one_of M_Reader_take_one_of G_Reader_take_one_of (by omega) T D_b (rd_br 0)⟩
  | succ k ih =>
    have h1 : FnMX P w K mg base (2 * (k + 1) + 4) a_s fd_s ["self"] C_Reader 0 (msp_shape C_NoWriting (k + 1)) := ok_Reader_read_shape Z_Reader O_NoWriting (k := 2 * k + 5) D_Reader_take_one_of M_Reader_take_one_of G_Reader_take_one_of (by omega) D_s M_s ih.1 (by omega) D_Reader_read_signs M_Reader_read_signs G_Reader_read_signs (by omega) D_b M_b ih.2 (by omega) T D_s (rd_shape k)
    exact ⟨h1, ok_Reader_read_in_brackets Z_Reader (k := 2 * (k + 1) + 4) D_Reader_sign_here M_Reader_sign_here G_Reader_sign_here (by omega) D_s M_s h1 (by omega) D_Reader_take_one_of M_Reader_take_one_of G_Reader_take_one_of (by omega) T D_b (rd_br (k + 1))⟩
end
theorem all_mk {l : PySem.W.OpenLaw} {w : World} {K : PySem.W.Frag} {h : Heap} {mg : Str → Option Value} {fa : Addr} (X : K.In h) (G : h.Ns mainGlobals mg) (hfa : mg "law" = some (.ref fa))
    {C_Reader : Addr} (aC_Reader : PySem.W.nsIn K mainGlobals "Reader" = some (some (.ref C_Reader))) (pg_Reader : PySem.W.plainGet K C_Reader Str.empty = true) (hd_Reader : PySem.W.hasDictIn K C_Reader = true) (po_Reader : PySem.W.plainOver K C_Reader = true) (sa_Reader : PySem.W.findIn K (.ref C_Reader) "__setattr__" = some (some (.builtin "object.__setattr__"))) (mk_Reader : PySem.W.makesIn K C_Reader = true) (kc_Reader : PySem.W.keepIn K (.ref C_Reader) = true) (nf_Reader_text : PySem.W.findIn K (.ref C_Reader) "text" = some none) (nf_Reader_place : PySem.W.findIn K (.ref C_Reader) "place" = some none) (nf_Reader_parts_left : PySem.W.findIn K (.ref C_Reader) "parts_left" = some none)
    {C_NoWriting : Addr} (ae_NoWriting : PySem.W.nsIn K mainGlobals "NoWriting" = some (some (.ref C_NoWriting))) (qe_NoWriting : PySem.W.excIn K C_NoWriting mroV "ValueError.__new__" = true)
    {C_KindError : Addr} (ae_KindError : PySem.W.nsIn K mainGlobals "KindError" = some (some (.ref C_KindError))) (qe_KindError : PySem.W.excIn K C_KindError mroV "ValueError.__new__" = true)
    {C_NoSign : Addr} (ae_NoSign : PySem.W.nsIn K mainGlobals "NoSign" = some (some (.ref C_NoSign))) (qe_NoSign : PySem.W.excIn K C_NoSign mroV "ValueError.__new__" = true)
    {C_NoGiven : Addr} (ae_NoGiven : PySem.W.nsIn K mainGlobals "NoGiven" = some (some (.ref C_NoGiven))) (qe_NoGiven : PySem.W.excIn K C_NoGiven mroV "ValueError.__new__" = true)
    (ek_ga : PySem.W.findIn K (.ref C_NoWriting) "__getattribute__" = some (some (.builtin "BaseException.__getattribute__"))) (ek_hk : PySem.W.findIn K (.ref C_NoWriting) "__getattr__" = some none) (ek_ha : PySem.W.findIn K (.ref C_NoWriting) "__class__" = some (some (.builtin "object.__class__"))) (ek_hn : PySem.W.specialIn K (.builtin "object.__class__") "__get__" = some (some (.builtin "getset_descriptor.__get__"))) (ek_htk : PySem.W.takesIn K (.builtin "object.__class__") = some true) (ek_mo : PySem.W.mroIn K C_NoWriting (.type "object") = some true) (ek_mb : PySem.W.mroIn K C_NoWriting (.type "BaseException") = some true) (ek_mc : PySem.W.mroIn K C_NoWriting (.ref C_KindError) = some true)
    (ki_NoWriting : PySem.W.kitOne K (.ref C_NoWriting) (.ref C_NoWriting) = some true)
    (ki_NoSign : PySem.W.kitOne K (.ref C_NoWriting) (.ref C_NoSign) = some false)
    (ki_NoGiven : PySem.W.kitOne K (.ref C_NoWriting) (.ref C_NoGiven) = some false)
    (ki_ValueError : PySem.W.kitOne K (.ref C_NoWriting) (.type "ValueError") = some true)
    {f1 : Addr} {od1 an1 : Option Addr} {sl1 : Array (Option Value)} {oc1 kV1 dc1 pm1 cd1 ct1 : Value}
    (a1 : PySem.W.nsIn K mainGlobals "inner_shapes" = some (some (.ref f1))) (l1 : K.lookup f1 = some ⟨oc1, od1, .func (PySem.W.fnOf "inner_shapes" "inner_shapes" (defArgs st_inner_shapes) (defBody st_inner_shapes) (defScope st_inner_shapes) .none kV1 dc1 pm1 an1 cd1 ct1), sl1⟩) (c1 : PySem.W.codeIn K cd1 "inner_shapes" = true) (k1 : PySem.W.keepIn K (.ref f1) = true)
    {f2 : Addr} {od2 an2 : Option Addr} {sl2 : Array (Option Value)} {oc2 kV2 dc2 pm2 cd2 ct2 : Value}
    (a2 : PySem.W.nsIn K mainGlobals "pieces_of" = some (some (.ref f2))) (l2 : K.lookup f2 = some ⟨oc2, od2, .func (PySem.W.fnOf "pieces_of" "pieces_of" (defArgs st_pieces_of) (defBody st_pieces_of) (defScope st_pieces_of) .none kV2 dc2 pm2 an2 cd2 ct2), sl2⟩) (c2 : PySem.W.codeIn K cd2 "pieces_of" = true) (k2 : PySem.W.keepIn K (.ref f2) = true)
    {f3 : Addr} {od3 an3 : Option Addr} {sl3 : Array (Option Value)} {oc3 kV3 dc3 pm3 cd3 ct3 : Value}
    (a3 : PySem.W.nsIn K mainGlobals "written" = some (some (.ref f3))) (l3 : K.lookup f3 = some ⟨oc3, od3, .func (PySem.W.fnOf "written" "written" (defArgs st_written) (defBody st_written) (defScope st_written) .none kV3 dc3 pm3 an3 cd3 ct3), sl3⟩) (c3 : PySem.W.codeIn K cd3 "written" = true) (k3 : PySem.W.keepIn K (.ref f3) = true)
    {f4 : Addr} {od4 an4 : Option Addr} {sl4 : Array (Option Value)} {oc4 kV4 dc4 pm4 cd4 ct4 : Value}
    (a4 : PySem.W.nsIn K mainGlobals "_law_cell" = some (some (.ref f4))) (l4 : K.lookup f4 = some ⟨oc4, od4, .func (PySem.W.fnOf "_law_cell" "_law_cell" (defArgs st_law_cell) (defBody st_law_cell) (defScope st_law_cell) .none kV4 dc4 pm4 an4 cd4 ct4), sl4⟩) (c4 : PySem.W.codeIn K cd4 "_law_cell" = true) (k4 : PySem.W.keepIn K (.ref f4) = true)
    {f5 : Addr} {od5 an5 : Option Addr} {sl5 : Array (Option Value)} {oc5 kV5 dc5 pm5 cd5 ct5 : Value}
    (a5 : PySem.W.nsIn K mainGlobals "_law_drawn" = some (some (.ref f5))) (l5 : K.lookup f5 = some ⟨oc5, od5, .func (PySem.W.fnOf "_law_drawn" "_law_drawn" (defArgs st_law_drawn) (defBody st_law_drawn) (defScope st_law_drawn) .none kV5 dc5 pm5 an5 cd5 ct5), sl5⟩) (c5 : PySem.W.codeIn K cd5 "_law_drawn" = true) (k5 : PySem.W.keepIn K (.ref f5) = true)
    {f6 : Addr} {od6 an6 : Option Addr} {sl6 : Array (Option Value)} {oc6 kV6 dc6 pm6 cd6 ct6 : Value}
    (a6 : PySem.W.nsIn K mainGlobals "_law_shape" = some (some (.ref f6))) (l6 : K.lookup f6 = some ⟨oc6, od6, .func (PySem.W.fnOf "_law_shape" "_law_shape" (defArgs st_law_shape) (defBody st_law_shape) (defScope st_law_shape) .none kV6 dc6 pm6 an6 cd6 ct6), sl6⟩) (c6 : PySem.W.codeIn K cd6 "_law_shape" = true) (k6 : PySem.W.keepIn K (.ref f6) = true)
    {f7 : Addr} {od7 an7 : Option Addr} {sl7 : Array (Option Value)} {oc7 kV7 dc7 pm7 cd7 ct7 : Value}
    (a7 : PySem.W.nsIn K mainGlobals "_law_at" = some (some (.ref f7))) (l7 : K.lookup f7 = some ⟨oc7, od7, .func (PySem.W.fnOf "_law_at" "_law_at" (defArgs st_law_at) (defBody st_law_at) (defScope st_law_at) .none kV7 dc7 pm7 an7 cd7 ct7), sl7⟩) (c7 : PySem.W.codeIn K cd7 "_law_at" = true) (k7 : PySem.W.keepIn K (.ref f7) = true)
    {f8 : Addr} {od8 an8 : Option Addr} {sl8 : Array (Option Value)} {oc8 kV8 dc8 pm8 cd8 ct8 : Value}
    (a8 : PySem.W.findIn K (.ref C_Reader) "__init__" = some (some (.ref f8))) (i8 : PySem.W.isFn K (.ref f8) = true) (l8 : K.lookup f8 = some ⟨oc8, od8, .func (PySem.W.fnOf "__init__" "Reader.__init__" (defArgs st_Reader___init__) (defBody st_Reader___init__) (defScope st_Reader___init__) .none kV8 dc8 pm8 an8 cd8 ct8), sl8⟩) (c8 : PySem.W.codeIn K cd8 "Reader.__init__" = true) (k8 : PySem.W.keepIn K (.ref f8) = true)
    {f9 : Addr} {od9 an9 : Option Addr} {sl9 : Array (Option Value)} {oc9 kV9 dc9 pm9 cd9 ct9 : Value}
    (a9 : PySem.W.findIn K (.ref C_Reader) "sign_here" = some (some (.ref f9))) (i9 : PySem.W.isFn K (.ref f9) = true) (l9 : K.lookup f9 = some ⟨oc9, od9, .func (PySem.W.fnOf "sign_here" "Reader.sign_here" (defArgs st_Reader_sign_here) (defBody st_Reader_sign_here) (defScope st_Reader_sign_here) .none kV9 dc9 pm9 an9 cd9 ct9), sl9⟩) (c9 : PySem.W.codeIn K cd9 "Reader.sign_here" = true) (k9 : PySem.W.keepIn K (.ref f9) = true)
    {f10 : Addr} {od10 an10 : Option Addr} {sl10 : Array (Option Value)} {oc10 kV10 dc10 pm10 cd10 ct10 : Value}
    (a10 : PySem.W.findIn K (.ref C_Reader) "take_one_of" = some (some (.ref f10))) (i10 : PySem.W.isFn K (.ref f10) = true) (l10 : K.lookup f10 = some ⟨oc10, od10, .func (PySem.W.fnOf "take_one_of" "Reader.take_one_of" (defArgs st_Reader_take_one_of) (defBody st_Reader_take_one_of) (defScope st_Reader_take_one_of) .none kV10 dc10 pm10 an10 cd10 ct10), sl10⟩) (c10 : PySem.W.codeIn K cd10 "Reader.take_one_of" = true) (k10 : PySem.W.keepIn K (.ref f10) = true)
    {f11 : Addr} {od11 an11 : Option Addr} {sl11 : Array (Option Value)} {oc11 kV11 dc11 pm11 cd11 ct11 : Value}
    (a11 : PySem.W.nsIn K mainGlobals "signs_in" = some (some (.ref f11))) (l11 : K.lookup f11 = some ⟨oc11, od11, .func (PySem.W.fnOf "signs_in" "signs_in" (defArgs st_signs_in) (defBody st_signs_in) (defScope st_signs_in) .none kV11 dc11 pm11 an11 cd11 ct11), sl11⟩) (c11 : PySem.W.codeIn K cd11 "signs_in" = true) (k11 : PySem.W.keepIn K (.ref f11) = true)
    {f12 : Addr} {od12 an12 : Option Addr} {sl12 : Array (Option Value)} {oc12 kV12 dc12 pm12 cd12 ct12 : Value}
    (a12 : PySem.W.nsIn K mainGlobals "are_signs" = some (some (.ref f12))) (l12 : K.lookup f12 = some ⟨oc12, od12, .func (PySem.W.fnOf "are_signs" "are_signs" (defArgs st_are_signs) (defBody st_are_signs) (defScope st_are_signs) .none kV12 dc12 pm12 an12 cd12 ct12), sl12⟩) (c12 : PySem.W.codeIn K cd12 "are_signs" = true) (k12 : PySem.W.keepIn K (.ref f12) = true)
    {f13 : Addr} {od13 an13 : Option Addr} {sl13 : Array (Option Value)} {oc13 kV13 dc13 pm13 cd13 ct13 : Value}
    (a13 : PySem.W.findIn K (.ref C_Reader) "read_signs" = some (some (.ref f13))) (i13 : PySem.W.isFn K (.ref f13) = true) (l13 : K.lookup f13 = some ⟨oc13, od13, .func (PySem.W.fnOf "read_signs" "Reader.read_signs" (defArgs st_Reader_read_signs) (defBody st_Reader_read_signs) (defScope st_Reader_read_signs) .none kV13 dc13 pm13 an13 cd13 ct13), sl13⟩) (c13 : PySem.W.codeIn K cd13 "Reader.read_signs" = true) (k13 : PySem.W.keepIn K (.ref f13) = true)
    {f14 : Addr} {od14 an14 : Option Addr} {sl14 : Array (Option Value)} {oc14 kV14 dc14 pm14 cd14 ct14 : Value}
    (a14 : PySem.W.findIn K (.ref C_Reader) "read_shape" = some (some (.ref f14))) (i14 : PySem.W.isFn K (.ref f14) = true) (l14 : K.lookup f14 = some ⟨oc14, od14, .func (PySem.W.fnOf "read_shape" "Reader.read_shape" (defArgs st_Reader_read_shape) (defBody st_Reader_read_shape) (defScope st_Reader_read_shape) .none kV14 dc14 pm14 an14 cd14 ct14), sl14⟩) (c14 : PySem.W.codeIn K cd14 "Reader.read_shape" = true) (k14 : PySem.W.keepIn K (.ref f14) = true)
    {f15 : Addr} {od15 an15 : Option Addr} {sl15 : Array (Option Value)} {oc15 kV15 dc15 pm15 cd15 ct15 : Value}
    (a15 : PySem.W.findIn K (.ref C_Reader) "read_in_brackets" = some (some (.ref f15))) (i15 : PySem.W.isFn K (.ref f15) = true) (l15 : K.lookup f15 = some ⟨oc15, od15, .func (PySem.W.fnOf "read_in_brackets" "Reader.read_in_brackets" (defArgs st_Reader_read_in_brackets) (defBody st_Reader_read_in_brackets) (defScope st_Reader_read_in_brackets) .none kV15 dc15 pm15 an15 cd15 ct15), sl15⟩) (c15 : PySem.W.codeIn K cd15 "Reader.read_in_brackets" = true) (k15 : PySem.W.keepIn K (.ref f15) = true)
    {f16 : Addr} {od16 an16 : Option Addr} {sl16 : Array (Option Value)} {oc16 kV16 dc16 pm16 cd16 ct16 : Value}
    (a16 : PySem.W.nsIn K mainGlobals "read" = some (some (.ref f16))) (l16 : K.lookup f16 = some ⟨oc16, od16, .func (PySem.W.fnOf "read" "read" (defArgs st_read) (defBody st_read) (defScope st_read) .none kV16 dc16 pm16 an16 cd16 ct16), sl16⟩) (c16 : PySem.W.codeIn K cd16 "read" = true) (k16 : PySem.W.keepIn K (.ref f16) = true)
    {f17 : Addr} {od17 an17 : Option Addr} {sl17 : Array (Option Value)} {oc17 kV17 dc17 pm17 cd17 ct17 : Value}
    (a17 : PySem.W.nsIn K mainGlobals "_law_told" = some (some (.ref f17))) (l17 : K.lookup f17 = some ⟨oc17, od17, .func (PySem.W.fnOf "_law_told" "_law_told" (defArgs st_law_told) (defBody st_law_told) (defScope st_law_told) .none kV17 dc17 pm17 an17 cd17 ct17), sl17⟩) (c17 : PySem.W.codeIn K cd17 "_law_told" = true) (k17 : PySem.W.keepIn K (.ref f17) = true)
    {f18 : Addr} {od18 an18 : Option Addr} {sl18 : Array (Option Value)} {oc18 kV18 dc18 pm18 cd18 ct18 : Value}
    (a18 : PySem.W.nsIn K mainGlobals "law" = some (some (.ref f18))) (l18 : K.lookup f18 = some ⟨oc18, od18, .func (PySem.W.fnOf "law" "law" (defArgs st_law) (defBody st_law) (defScope st_law) .none kV18 dc18 pm18 an18 cd18 ct18), sl18⟩) (c18 : PySem.W.codeIn K cd18 "law" = true) (k18 : PySem.W.keepIn K (.ref f18) = true)
    (z1 : PySem.W.nsIn K mainGlobals "ValueError" = some none) (z2 : PySem.W.nsIn K mainGlobals "enumerate" = some none) (z3 : PySem.W.nsIn K mainGlobals "isinstance" = some none) (z4 : PySem.W.nsIn K mainGlobals "len" = some none) (z5 : PySem.W.nsIn K mainGlobals "list" = some none) (z6 : PySem.W.nsIn K mainGlobals "max" = some none) (z7 : PySem.W.nsIn K mainGlobals "range" = some none) (z8 : PySem.W.nsIn K mainGlobals "str" = some none) {t1 : Tok} (s1 : PySem.W.nsIn K mainGlobals "MOST_PARTS" = some (some (.int 15 t1))) {t2 : Tok} (s2 : PySem.W.nsIn K mainGlobals "SIGNS" = some (some (.str "01ab" t2))) {di1 : Addr} {es1 : Array DictEntry} {ep1 : Nat} (di_1 : PySem.W.nsIn K mainGlobals "AHEAD" = some (some (.ref di1))) (dj_1 : K.lookup di1 = some { cls := .type "dict", data := .dict es1 ep1 }) (dm_1 : mentsC w es1.toList aheadKV) (dn_1 : (di1 == sysModules) = false) {di2 : Addr} {es2 : Array DictEntry} {ep2 : Nat} (di_2 : PySem.W.nsIn K mainGlobals "BETWEEN" = some (some (.ref di2))) (dj_2 : K.lookup di2 = some { cls := .type "dict", data := .dict es2 ep2 }) (dm_2 : mentsC w es2.toList betweenKV) (dn_2 : (di2 == sysModules) = false) {di3 : Addr} {es3 : Array DictEntry} {ep3 : Nat} (di_3 : PySem.W.nsIn K mainGlobals "INNER" = some (some (.ref di3))) (dj_3 : K.lookup di3 = some { cls := .type "dict", data := .dict es3 ep3 }) (dm_3 : ments w es3.toList innerKV) (dn_3 : (di3 == sysModules) = false) {di4 : Addr} {es4 : Array DictEntry} {ep4 : Nat} (di_4 : PySem.W.nsIn K mainGlobals "WORDS_AHEAD" = some (some (.ref di4))) (dj_4 : K.lookup di4 = some { cls := .type "dict", data := .dict es4 ep4 }) (dm_4 : mentsC w es4.toList waKV) (dn_4 : (di4 == sysModules) = false) {di5 : Addr} {es5 : Array DictEntry} {ep5 : Nat} (di_5 : PySem.W.nsIn K mainGlobals "WORDS_BETWEEN" = some (some (.ref di5))) (dj_5 : K.lookup di5 = some { cls := .type "dict", data := .dict es5 ep5 }) (dm_5 : mentsC w es5.toList wbKV) (dn_5 : (di5 == sysModules) = false) :
    ∃ fd : FuncData, (∀ (s : Shared) (v : Value), BindsTo s fd ⟨[v], []⟩ [("_law_script", v)]) ∧ ∀ base : Heap, K.In base → base.Ns mainGlobals mg → FnOk l.prog w K mg base CX0 202 fa fd ["_law_script"] (liftSp K 1 sp_law) := by
  have e := hfa.symm.trans (PySem.W.mg_of X G a18)
  cases e
  have Z_Reader : Cl_Reader K mg C_Reader := ⟨⟨pg_Reader, hd_Reader, po_Reader, sa_Reader⟩, PySem.W.mg_of X G aC_Reader, nf_Reader_text, nf_Reader_place, nf_Reader_parts_left⟩
  have F1 := fun_mk (st := st_inner_shapes) l1 c1 k1
  have D_inner_shapes : Df K mg "inner_shapes" st_inner_shapes ["shape"] _ _ := ⟨F1, F1.binds (ps := ["shape"]) fun _ _ _ _ _ _ us hl => match us, hl with | [_], _ => rfl, k1, PySem.W.mg_of X G a1⟩
  have F2 := fun_mk (st := st_pieces_of) l2 c2 k2
  have D_pieces_of : Df K mg "pieces_of" st_pieces_of ["shape"] _ _ := ⟨F2, F2.binds (ps := ["shape"]) fun _ _ _ _ _ _ us hl => match us, hl with | [_], _ => rfl, k2, PySem.W.mg_of X G a2⟩
  have F3 := fun_mk (st := st_written) l3 c3 k3
  have D_written : Df K mg "written" st_written ["shape"] _ _ := ⟨F3, F3.binds (ps := ["shape"]) fun _ _ _ _ _ _ us hl => match us, hl with | [_], _ => rfl, k3, PySem.W.mg_of X G a3⟩
  have F4 := fun_mk (st := st_law_cell) l4 c4 k4
  have D_law_cell : Df K mg "_law_cell" st_law_cell ["_law_script", "_law_k"] _ _ := ⟨F4, F4.binds (ps := ["_law_script", "_law_k"]) fun _ _ _ _ _ _ us hl => match us, hl with | [_, _], _ => rfl, k4, PySem.W.mg_of X G a4⟩
  have F5 := fun_mk (st := st_law_drawn) l5 c5 k5
  have D_law_drawn : Df K mg "_law_drawn" st_law_drawn ["_law_script", "_law_k", "_law_many"] _ _ := ⟨F5, F5.binds (ps := ["_law_script", "_law_k", "_law_many"]) fun _ _ _ _ _ _ us hl => match us, hl with | [_, _, _], _ => rfl, k5, PySem.W.mg_of X G a5⟩
  have F6 := fun_mk (st := st_law_shape) l6 c6 k6
  have D_law_shape : Df K mg "_law_shape" st_law_shape ["_law_script", "_law_at_here", "_law_deep"] _ _ := ⟨F6, F6.binds (ps := ["_law_script", "_law_at_here", "_law_deep"]) fun _ _ _ _ _ _ us hl => match us, hl with | [_, _, _], _ => rfl, k6, PySem.W.mg_of X G a6⟩
  have F7 := fun_mk (st := st_law_at) l7 c7 k7
  have D_law_at : Df K mg "_law_at" st_law_at ["_law_text_here", "_law_place"] _ _ := ⟨F7, F7.binds (ps := ["_law_text_here", "_law_place"]) fun _ _ _ _ _ _ us hl => match us, hl with | [_, _], _ => rfl, k7, PySem.W.mg_of X G a7⟩
  have F8 := fun_mk (st := st_Reader___init__) l8 c8 k8
  have D_Reader___init__ : DfM K "__init__" "Reader.__init__" st_Reader___init__ ["self", "text"] _ _ := ⟨F8, F8.binds (ps := ["self", "text"]) fun _ _ _ _ _ _ us hl => match us, hl with | [_, _], _ => rfl⟩
  have M_Reader___init__ : Mk K C_Reader f8 := ⟨mk_Reader, a8, i8, kc_Reader⟩
  have F9 := fun_mk (st := st_Reader_sign_here) l9 c9 k9
  have D_Reader_sign_here : DfM K "sign_here" "Reader.sign_here" st_Reader_sign_here ["self"] _ _ := ⟨F9, F9.binds (ps := ["self"]) fun _ _ _ _ _ _ us hl => match us, hl with | [_], _ => rfl⟩
  have M_Reader_sign_here : Meth K C_Reader "sign_here" f9 := ⟨a9, i9, k9⟩
  have F10 := fun_mk (st := st_Reader_take_one_of) l10 c10 k10
  have D_Reader_take_one_of : DfM K "take_one_of" "Reader.take_one_of" st_Reader_take_one_of ["self", "some"] _ _ := ⟨F10, F10.binds (ps := ["self", "some"]) fun _ _ _ _ _ _ us hl => match us, hl with | [_, _], _ => rfl⟩
  have M_Reader_take_one_of : Meth K C_Reader "take_one_of" f10 := ⟨a10, i10, k10⟩
  have F11 := fun_mk (st := st_signs_in) l11 c11 k11
  have D_signs_in : Df K mg "signs_in" st_signs_in ["text"] _ _ := ⟨F11, F11.binds (ps := ["text"]) fun _ _ _ _ _ _ us hl => match us, hl with | [_], _ => rfl, k11, PySem.W.mg_of X G a11⟩
  have F12 := fun_mk (st := st_are_signs) l12 c12 k12
  have D_are_signs : Df K mg "are_signs" st_are_signs ["some"] _ _ := ⟨F12, F12.binds (ps := ["some"]) fun _ _ _ _ _ _ us hl => match us, hl with | [_], _ => rfl, k12, PySem.W.mg_of X G a12⟩
  have F13 := fun_mk (st := st_Reader_read_signs) l13 c13 k13
  have D_Reader_read_signs : DfM K "read_signs" "Reader.read_signs" st_Reader_read_signs ["self"] _ _ := ⟨F13, F13.binds (ps := ["self"]) fun _ _ _ _ _ _ us hl => match us, hl with | [_], _ => rfl⟩
  have M_Reader_read_signs : Meth K C_Reader "read_signs" f13 := ⟨a13, i13, k13⟩
  have F14 := fun_mk (st := st_Reader_read_shape) l14 c14 k14
  have D_Reader_read_shape : DfM K "read_shape" "Reader.read_shape" st_Reader_read_shape ["self"] _ _ := ⟨F14, F14.binds (ps := ["self"]) fun _ _ _ _ _ _ us hl => match us, hl with | [_], _ => rfl⟩
  have M_Reader_read_shape : Meth K C_Reader "read_shape" f14 := ⟨a14, i14, k14⟩
  have F15 := fun_mk (st := st_Reader_read_in_brackets) l15 c15 k15
  have D_Reader_read_in_brackets : DfM K "read_in_brackets" "Reader.read_in_brackets" st_Reader_read_in_brackets ["self"] _ _ := ⟨F15, F15.binds (ps := ["self"]) fun _ _ _ _ _ _ us hl => match us, hl with | [_], _ => rfl⟩
  have M_Reader_read_in_brackets : Meth K C_Reader "read_in_brackets" f15 := ⟨a15, i15, k15⟩
  have F16 := fun_mk (st := st_read) l16 c16 k16
  have D_read : Df K mg "read" st_read ["text"] _ _ := ⟨F16, F16.binds (ps := ["text"]) fun _ _ _ _ _ _ us hl => match us, hl with | [_], _ => rfl, k16, PySem.W.mg_of X G a16⟩
  have F17 := fun_mk (st := st_law_told) l17 c17 k17
  have D_law_told : Df K mg "_law_told" st_law_told ["_law_text_here"] _ _ := ⟨F17, F17.binds (ps := ["_law_text_here"]) fun _ _ _ _ _ _ us hl => match us, hl with | [_], _ => rfl, k17, PySem.W.mg_of X G a17⟩
  have F18 := fun_mk (st := st_law) l18 c18 k18
  have D_law : Df K mg "law" st_law ["_law_script"] _ _ := ⟨F18, F18.binds (ps := ["_law_script"]) fun _ _ _ _ _ _ us hl => match us, hl with | [_], _ => rfl, k18, PySem.W.mg_of X G a18⟩
  have T : Txt K mg w := { m_ValueError := PySem.W.mg_none_of X G z1, m_enumerate := PySem.W.mg_none_of X G z2, m_isinstance := PySem.W.mg_none_of X G z3, m_len := PySem.W.mg_none_of X G z4, m_list := PySem.W.mg_none_of X G z5, m_max := PySem.W.mg_none_of X G z6, m_range := PySem.W.mg_none_of X G z7, m_str := PySem.W.mg_none_of X G z8, c_MOST_PARTS := ⟨t1, PySem.W.mg_of X G s1⟩, c_SIGNS := ⟨t2, PySem.W.mg_of X G s2⟩, e_AHEAD := ⟨di1, ⟨⟨es1, ep1, dj_1, dm_1⟩, dn_1, by decide +kernel⟩, PySem.W.mg_of X G di_1⟩, e_BETWEEN := ⟨di2, ⟨⟨es2, ep2, dj_2, dm_2⟩, dn_2, by decide +kernel⟩, PySem.W.mg_of X G di_2⟩, e_INNER := ⟨di3, ⟨⟨es3, ep3, dj_3, dm_3⟩, dn_3, by decide +kernel⟩, PySem.W.mg_of X G di_3⟩, e_WORDS_AHEAD := ⟨di4, ⟨⟨es4, ep4, dj_4, dm_4⟩, dn_4, by decide +kernel⟩, PySem.W.mg_of X G di_4⟩, e_WORDS_BETWEEN := ⟨di5, ⟨⟨es5, ep5, dj_5, dm_5⟩, dn_5, by decide +kernel⟩, PySem.W.mg_of X G di_5⟩ }
  refine ⟨PySem.W.fnOf "law" "law" (defArgs st_law) (defBody st_law) (defScope st_law) .none kV18 dc18 pm18 an18 cd18 ct18, fun s v => .of_eq rfl, fun base hB _ => ?_⟩
  have O_NoWriting : OwnCls "NoWriting" C_NoWriting mroV "ValueError.__new__" mg base := own_cls hB (PySem.W.mg_of X G ae_NoWriting) qe_NoWriting
  have O_KindError : OwnCls "KindError" C_KindError mroV "ValueError.__new__" mg base := own_cls hB (PySem.W.mg_of X G ae_KindError) qe_KindError
  have O_NoSign : OwnCls "NoSign" C_NoSign mroV "ValueError.__new__" mg base := own_cls hB (PySem.W.mg_of X G ae_NoSign) qe_NoSign
  have O_NoGiven : OwnCls "NoGiven" C_NoGiven mroV "ValueError.__new__" mg base := own_cls hB (PySem.W.mg_of X G ae_NoGiven) qe_NoGiven
  have B_NoWriting : Below base C_NoWriting C_KindError := below_of hB qe_NoWriting ek_mc
  have V_NoWriting : PySem.W.ExcK K C_NoWriting := ⟨ek_ga, ek_hk, ek_ha, ek_hn, ek_htk, ek_mo, ek_mb⟩
  have G_inner_shapes : FnD l.prog w K mg base 1 _ _ ["shape"] sp_inner := ok_inner_shapes   (k := 0)  T D_inner_shapes rd_inner
  have G_pieces_of : FnD l.prog w K mg base 2 _ _ ["shape"] sp_pieces := ok_pieces_of   (k := 1) D_inner_shapes G_inner_shapes (by omega) T D_pieces_of rd_pieces
  have G_written : FnD l.prog w K mg base 3 _ _ ["shape"] sp_written := ok_written   (k := 2) D_pieces_of G_pieces_of (by omega) T D_written rd_written
  have G_law_cell : FnD l.prog w K mg base 1 _ _ ["_law_script", "_law_k"] sp_cell := ok_law_cell   (k := 0)  T D_law_cell rd_cell
  have G_law_drawn : FnD l.prog w K mg base 2 _ _ ["_law_script", "_law_k", "_law_many"] sp_drawn := ok_law_drawn   (k := 1) D_law_cell G_law_cell (by omega) T D_law_drawn rd_drawn
  have G_law_shape : FnD l.prog w K mg base 6 _ _ ["_law_script", "_law_at_here", "_law_deep"] (sp_shape 4) := law_shape_all D_law_drawn G_law_drawn T D_law_shape 4
  have G_law_at : FnD l.prog w K mg base 201 _ _ ["_law_text_here", "_law_place"] (sp_at 200) := law_at_all  T D_law_at 200
  have G_Reader___init__ : FnM l.prog w K mg base 1 _ _ ["self", "text"] C_Reader 1 msp_init := ok_Reader___init__ Z_Reader  (k := 0)  T D_Reader___init__ rd_init
  have G_Reader_sign_here : FnM l.prog w K mg base 1 _ _ ["self"] C_Reader 0 msp_sign := ok_Reader_sign_here Z_Reader  (k := 0)  T D_Reader_sign_here rd_sign
  have G_Reader_take_one_of : FnMX l.prog w K mg base 2 _ _ ["self", "some"] C_Reader 1 (msp_take C_NoWriting) := ok_Reader_take_one_of Z_Reader O_NoWriting (k := 1) D_Reader_sign_here M_Reader_sign_here G_Reader_sign_here (by omega) T D_Reader_take_one_of rd_take
  have G_signs_in : FnD l.prog w K mg base 1 _ _ ["text"] sp_signs_in := ok_signs_in   (k := 0)  T D_signs_in rd_signs_in
  have G_are_signs : FnD l.prog w K mg base 2 _ _ ["some"] sp_are_signs := ok_are_signs   (k := 1) D_signs_in G_signs_in (by omega) T D_are_signs rd_are_signs
  have G_Reader_read_signs : FnMX l.prog w K mg base 3 _ _ ["self"] C_Reader 0 (msp_signs C_NoWriting) := ok_Reader_read_signs Z_Reader O_NoWriting (k := 2) D_are_signs G_are_signs (by omega) T D_Reader_read_signs rd_signs
  have G_Reader_read_shape := (reader_all (P := l.prog) (base := base) Z_Reader O_NoWriting D_Reader_sign_here M_Reader_sign_here G_Reader_sign_here D_Reader_take_one_of M_Reader_take_one_of G_Reader_take_one_of D_Reader_read_signs M_Reader_read_signs G_Reader_read_signs D_Reader_read_shape M_Reader_read_shape D_Reader_read_in_brackets M_Reader_read_in_brackets T 16).1
  have G_read : FnX l.prog w K mg base 37 _ _ ["text"] (sp_read C_NoWriting) := ok_read Z_Reader O_NoWriting (k := 36) D_Reader___init__ M_Reader___init__ G_Reader___init__ (by omega) D_Reader_read_shape M_Reader_read_shape G_Reader_read_shape (by omega) D_Reader_sign_here M_Reader_sign_here G_Reader_sign_here (by omega) T D_read rd_read
  have G_law_told : FnD l.prog w K mg base 38 _ _ ["_law_text_here"] sp_told := ok_law_told O_KindError O_NoWriting O_NoSign O_NoGiven B_NoWriting V_NoWriting ki_NoWriting ki_NoSign ki_NoGiven ki_ValueError (k := 37) D_read G_read (by omega) T D_law_told rd_told
  exact ok_law   (k := 201) D_written G_written (by omega) D_law_shape G_law_shape (by omega) D_law_drawn G_law_drawn (by omega) D_law_at G_law_at (by omega) D_law_told G_law_told (by omega) T D_law rd_law
theorem walk {l : PySem.W.OpenLaw} {q : Program} {loose : List Str} {XP : (Str → Option Value) → Heap → Prop} {YP : World → Heap → Prop} {d : DefRec} {K : Params → PySem.W.Frag} (hn : l.most = some 63) (hdf : d.params.defaults = [])
    (hY : ∀ (w : World) (h : Heap), YP w h → (K w.params).In h)
    (F : ∀ (w : World) (mg : Str → Option Value) (fa : Addr) (h : Heap), (K w.params).In h → h.Ns mainGlobals mg → mg d.name = some (.ref fa) →
      ∃ fd : FuncData, (∀ (s : Shared) (u : Value), BindsTo s fd ⟨[u], []⟩ [("_law_script", u)]) ∧ ∀ base : Heap, (K w.params).In base → base.Ns mainGlobals mg → FnOk l.prog w (K w.params) mg base CX0 202 fa fd ["_law_script"] (liftSp (K w.params) 1 sp_law)) :
    PySem.W.WalkO q loose XP YP l.row.toRowW d [] (fun f vs => PySem.call f vs) :=
  L2.walk_of (n := 63) (k := 202) (x := "_law_script") (CX := fun _ => CX0) (sp := fun w => liftSp (K w.params) 1 sp_law) hn (by decide) hdf ⟨rfl, by decide, by decide⟩ hY F
    (fun w H a ns hl hO hS => by
      have hz : FzL (K w.params) H a (ns.map V.int) := by
        rcases hS with (h | h) | h
        · rcases hO a with n | ⟨o, xs, n⟩
          · rw [h] at n; cases n
          · rw [h] at n; cases n
        · exact .inl h
        · exact .inr h
      exact ⟨[.st (scr ns)], .st (.bl true), rfl, ⟨_, _, rfl, IsS.s_lst hz AllS.ints, rfl⟩, rfl, ⟨ns, rfl, hl, rfl⟩, fun v H' _ hv => hv⟩) fun _ _ _ _ _ z => z
end K81
end
open PySem PySem.W PyProof.Rows
set_option maxRecDepth 100000 in
set_option maxHeartbeats 0 in
theorem PySem.Challenge.cw_textkinds_k81_whole_read_holds : PySem.Challenge.rw_textkinds_k81_whole_read.Holds := by
  w_on; o_law; k_head; (case hw => w_witness2)
  k_fill
  refine K81.walk (l := PySem.Challenge.rw_textkinds_k81_whole_read) rfl rfl (fun w h Y => PySem.W.kIn_of Y) ?F
  case F =>
    intro w mg fa h KX G hmg
    refine' K81.all_mk KX G hmg ?aC_Reader ?pg_Reader ?hd_Reader ?po_Reader ?sa_Reader ?mk_Reader ?kc_Reader ?nf_Reader_text ?nf_Reader_place ?nf_Reader_parts_left ?ae_NoWriting ?qe_NoWriting ?ae_KindError ?qe_KindError ?ae_NoSign ?qe_NoSign ?ae_NoGiven ?qe_NoGiven ?ek_ga ?ek_hk ?ek_ha ?ek_hn ?ek_htk ?ek_mo ?ek_mb ?ek_mc ?ki_NoWriting ?ki_NoSign ?ki_NoGiven ?ki_ValueError ?a1 ?l1 ?c1 ?k1 ?a2 ?l2 ?c2 ?k2 ?a3 ?l3 ?c3 ?k3 ?a4 ?l4 ?c4 ?k4 ?a5 ?l5 ?c5 ?k5 ?a6 ?l6 ?c6 ?k6 ?a7 ?l7 ?c7 ?k7 ?a8 ?i8 ?l8 ?c8 ?k8 ?a9 ?i9 ?l9 ?c9 ?k9 ?a10 ?i10 ?l10 ?c10 ?k10 ?a11 ?l11 ?c11 ?k11 ?a12 ?l12 ?c12 ?k12 ?a13 ?i13 ?l13 ?c13 ?k13 ?a14 ?i14 ?l14 ?c14 ?k14 ?a15 ?i15 ?l15 ?c15 ?k15 ?a16 ?l16 ?c16 ?k16 ?a17 ?l17 ?c17 ?k17 ?a18 ?l18 ?c18 ?k18 ?z1 ?z2 ?z3 ?z4 ?z5 ?z6 ?z7 ?z8 ?s1 ?s2 ?di_1 ?dj_1 ?dm_1 ?dn_1 ?di_2 ?dj_2 ?dm_2 ?dn_2 ?di_3 ?dj_3 ?dm_3 ?dn_3 ?di_4 ?dj_4 ?dm_4 ?dn_4 ?di_5 ?dj_5 ?dm_5 ?dn_5
    (case aC_Reader => k_is)
    (case pg_Reader => k_is)
    (case hd_Reader => k_is)
    (case po_Reader => k_is)
    (case sa_Reader => k_is)
    (case mk_Reader => k_is)
    (case kc_Reader => k_is)
    (case nf_Reader_text => k_is)
    (case nf_Reader_place => k_is)
    (case nf_Reader_parts_left => k_is)
    (case ae_NoWriting => k_is)
    (case qe_NoWriting => k_exc)
    (case ae_KindError => k_is)
    (case qe_KindError => k_exc)
    (case ae_NoSign => k_is)
    (case qe_NoSign => k_exc)
    (case ae_NoGiven => k_is)
    (case qe_NoGiven => k_exc)
    (case ek_ga => k_is)
    (case ek_hk => k_is)
    (case ek_ha => k_is)
    (case ek_hn => k_is)
    (case ek_htk => k_is)
    (case ek_mo => k_is)
    (case ek_mb => k_is)
    (case ek_mc => k_is)
    (case a1 => k_is)
    (case l1 => k_is)
    (case c1 => k_is)
    (case k1 => k_is)
    (case a2 => k_is)
    (case l2 => k_is)
    (case c2 => k_is)
    (case k2 => k_is)
    (case a3 => k_is)
    (case l3 => k_is)
    (case c3 => k_is)
    (case k3 => k_is)
    (case a4 => k_is)
    (case l4 => k_is)
    (case c4 => k_is)
    (case k4 => k_is)
    (case a5 => k_is)
    (case l5 => k_is)
    (case c5 => k_is)
    (case k5 => k_is)
    (case a6 => k_is)
    (case l6 => k_is)
    (case c6 => k_is)
    (case k6 => k_is)
    (case a7 => k_is)
    (case l7 => k_is)
    (case c7 => k_is)
    (case k7 => k_is)
    (case a8 => k_is)
    (case i8 => k_is)
    (case l8 => k_is)
    (case c8 => k_is)
    (case k8 => k_is)
    (case a9 => k_is)
    (case i9 => k_is)
    (case l9 => k_is)
    (case c9 => k_is)
    (case k9 => k_is)
    (case a10 => k_is)
    (case i10 => k_is)
    (case l10 => k_is)
    (case c10 => k_is)
    (case k10 => k_is)
    (case a11 => k_is)
    (case l11 => k_is)
    (case c11 => k_is)
    (case k11 => k_is)
    (case a12 => k_is)
    (case l12 => k_is)
    (case c12 => k_is)
    (case k12 => k_is)
    (case a13 => k_is)
    (case i13 => k_is)
    (case l13 => k_is)
    (case c13 => k_is)
    (case k13 => k_is)
    (case a14 => k_is)
    (case i14 => k_is)
    (case l14 => k_is)
    (case c14 => k_is)
    (case k14 => k_is)
    (case a15 => k_is)
    (case i15 => k_is)
    (case l15 => k_is)
    (case c15 => k_is)
    (case k15 => k_is)
    (case a16 => k_is)
    (case l16 => k_is)
    (case c16 => k_is)
    (case k16 => k_is)
    (case a17 => k_is)
    (case l17 => k_is)
    (case c17 => k_is)
    (case k17 => k_is)
    (case a18 => k_is)
    (case l18 => k_is)
    (case c18 => k_is)
    (case k18 => k_is)
    (case z1 => k_is)
    (case z2 => k_is)
    (case z3 => k_is)
    (case z4 => k_is)
    (case z5 => k_is)
    (case z6 => k_is)
    (case z7 => k_is)
    (case z8 => k_is)
    (case s1 => k_is)
    (case s2 => k_is)
    (case di_1 => k_is)
    (case dj_1 => k_is)
    (case di_2 => k_is)
    (case dj_2 => k_is)
    (case di_3 => k_is)
    (case dj_3 => k_is)
    (case di_4 => k_is)
    (case dj_4 => k_is)
    (case di_5 => k_is)
    (case dj_5 => k_is)
    (case ki_NoWriting => first | kit_is | k_is | rfl)
    (case ki_NoSign => first | kit_is | k_is | rfl)
    (case ki_NoGiven => first | kit_is | k_is | rfl)
    (case ki_ValueError => first | kit_is | k_is | rfl)
    (case dm_1 => exact ⟨⟨_, rfl⟩, rfl, ⟨_, rfl⟩, ⟨⟨_, rfl⟩, rfl, ⟨_, rfl⟩, trivial⟩⟩)
    (case dn_1 => decide +kernel)
    (case dm_2 => exact ⟨⟨_, rfl⟩, rfl, ⟨_, rfl⟩, ⟨⟨_, rfl⟩, rfl, ⟨_, rfl⟩, ⟨⟨_, rfl⟩, rfl, ⟨_, rfl⟩, trivial⟩⟩⟩)
    (case dn_2 => decide +kernel)
    (case dm_3 => exact ⟨⟨_, rfl⟩, rfl, ⟨_, rfl⟩, ⟨⟨_, rfl⟩, rfl, ⟨_, rfl⟩, ⟨⟨_, rfl⟩, rfl, ⟨_, rfl⟩, ⟨⟨_, rfl⟩, rfl, ⟨_, rfl⟩, ⟨⟨_, rfl⟩, rfl, ⟨_, rfl⟩, ⟨⟨_, rfl⟩, rfl, ⟨_, rfl⟩, ⟨⟨_, rfl⟩, rfl, ⟨_, rfl⟩, ⟨⟨_, rfl⟩, rfl, ⟨_, rfl⟩, trivial⟩⟩⟩⟩⟩⟩⟩⟩)
    (case dn_3 => decide +kernel)
    (case dm_4 => exact ⟨⟨_, rfl⟩, rfl, ⟨_, rfl⟩, ⟨⟨_, rfl⟩, rfl, ⟨_, rfl⟩, trivial⟩⟩)
    (case dn_4 => decide +kernel)
    (case dm_5 => exact ⟨⟨_, rfl⟩, rfl, ⟨_, rfl⟩, ⟨⟨_, rfl⟩, rfl, ⟨_, rfl⟩, ⟨⟨_, rfl⟩, rfl, ⟨_, rfl⟩, trivial⟩⟩⟩)
    (case dn_5 => decide +kernel)
#print axioms PySem.Challenge.cw_textkinds_k81_whole_read_holds
