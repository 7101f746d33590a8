import Derived.Test.YtdcnkebcpaelpaaPairs
/- What the operations of a region yield, as a list: a value, a number, or anything. -/
namespace Go.Proofs.Ytdcnkebcpaelpaa
open Go.RowKit

def SpecR (l : List (Option (Value ⊕ (Rat × Nat)))) (i : Nat) (v : Value) (w : World) : Prop :=
  match l[i]? with
  | some (some (.inl x)) => v = x
  | some (some (.inr (q, k))) => IsQ q k v w
  | _ => True
theorem SpecR.below {l : List (Option (Value ⊕ (Rat × Nat)))} (i : Nat) (v : Value) (w w' : World) (h : SpecR l i v w) (hb : Below w.heap.size w w') : SpecR l i v w' := by
  unfold SpecR at h ⊢
  split at h
  · exact h
  · exact IsQ.below h hb
  · trivial
/-- each from i on, m of them, one after the other -/
def AllFrom (S : Nat → Prop) : Nat → Nat → Prop
  | _, 0 => True
  | i, m + 1 => S i ∧ AllFrom S (i + 1) m
theorem AllFrom.step {S : Nat → Prop} {i m j : Nat} (hj : i + 1 = j) (h : S i) (t : AllFrom S j m) : AllFrom S i (m + 1) := by subst hj; exact ⟨h, t⟩
theorem AllFrom.nil {S : Nat → Prop} {i : Nat} : AllFrom S i 0 := True.intro
theorem AllFrom.at {S : Nat → Prop} : ∀ (m i : Nat), AllFrom S i m → ∀ k, i ≤ k → k < i + m → S k := by
  intro m
  induction m with
  | zero => intro i _ k h1 h2; omega
  | succ m ih =>
    intro i h k h1 h2
    by_cases hk : k = i
    · subst hk; exact h.1
    · exact ih (i + 1) h.2 k (by omega) (by omega)
theorem all_of_from {S : Nat → Prop} : ∀ (n : Nat), (∀ k, k < n → S k) → AllBelow S n := by
  intro n
  induction n with
  | zero => intro _; trivial
  | succ n ih => intro h; exact ⟨ih (fun k hk => h k (by omega)), h n (by omega)⟩
theorem AllFrom.below {S : Nat → Prop} {n : Nat} (h : AllFrom S 0 n) : AllBelow S n := all_of_from n (fun k hk => h.at n 0 k (by omega) (by omega))
end Go.Proofs.Ytdcnkebcpaelpaa
/- A drawn region that makes calls and lays one box of three cells, filled at its end. -/
namespace Go.Proofs.Ytdcnkebcpaelpaa
open Go.RowKit

def BoxT (t : TypeId) (w : World) (g : Nat) : Prop := ∃ u v x, w.heap[g]? = some (.cells #[u, v, x] t (0, 0))
theorem BoxT.facts {t : TypeId} {w : World} {g : Nat} (h : BoxT t w g) : ∃ u v x, w.cell? ⟨g, 0, none⟩ = some u ∧ w.cell? ⟨g, 1, none⟩ = some v ∧ w.cell? ⟨g, 2, none⟩ = some x ∧ w.frozen? ⟨g, 0, none⟩ = false ∧ w.frozen? ⟨g, 1, none⟩ = false ∧ w.frozen? ⟨g, 2, none⟩ = false := by
  obtain ⟨u, v, x, h⟩ := h
  refine ⟨u, v, x, ?_, ?_, ?_, ?_, ?_, ?_⟩
  · simp [World.cell?, h]
  · simp [World.cell?, h]
  · simp [World.cell?, h]
  · simp [World.frozen?, h]
  · simp [World.frozen?, h]
  · simp [World.frozen?, h]
theorem BoxT.lt {t : TypeId} {w : World} {g : Nat} (h : BoxT t w g) : g < w.heap.size := by
  obtain ⟨u, v, x, h⟩ := h
  exact (Array.getElem?_eq_some_iff.1 h).1
theorem BoxT.set3 {t : TypeId} {w : World} {g : Nat} (h : BoxT t w g) (u v x : Value) : BoxT t (((w.setCell ⟨g, 0, none⟩ u).setCell ⟨g, 1, none⟩ v).setCell ⟨g, 2, none⟩ x) g := by
  obtain ⟨u', v', x', h⟩ := h
  exact ⟨u, v, x, by simp [World.setCell, Array.getElem?_modify, h]⟩
/-- blocks below n are as they were; of the others a box of the type alone may turn -/
def ExtT (t : TypeId) (n : Nat) (w w' : World) : Prop := Below n w w' ∧ ∀ b, b < w.heap.size → w'.heap[b]? = w.heap[b]? ∨ (BoxT t w b ∧ BoxT t w' b)
theorem ExtT.of_below {t : TypeId} {n : Nat} {w w' : World} (h : Below w.heap.size w w') (hn : n ≤ w.heap.size) : ExtT t n w w' := ⟨h.mono hn, fun b hb => .inl (h.block b hb)⟩
theorem ExtT.refl (t : TypeId) (n : Nat) (w : World) : ExtT t n w w := ⟨Below.refl _ _, fun _ _ => .inl rfl⟩
theorem ExtT.set3 {t : TypeId} {n g : Nat} {w : World} (h : BoxT t w g) (hg : n ≤ g) (u v x : Value) : ExtT t n w (((w.setCell ⟨g, 0, none⟩ u).setCell ⟨g, 1, none⟩ v).setCell ⟨g, 2, none⟩ x) := by
  refine ⟨below3 (Below.refl _ _) hg _ _ _, fun b _ => ?_⟩
  by_cases hb : b = g
  · subst hb; exact .inr ⟨h, h.set3 _ _ _⟩
  · exact .inl (set3_off hb _ _ _)
theorem Fr.extT {t : TypeId} (ht : t ≠ 84) {B n : Nat} {w w' : World} {ao : Option Addr} {cap : Nat} {xs : List Nat} (h : Fr B w ao cap xs) (hE : ExtT t n w w') : Fr B w' ao cap xs := by
  obtain ⟨h1, h2, h3, h4⟩ := h
  refine ⟨h1, h2, h3, ?_⟩
  rcases h4 with h | ⟨b, rfl, hB, h⟩
  · exact .inl h
  · refine .inr ⟨b, rfl, hB, h.block ?_⟩
    rcases hE.2 b h.lt with e | ⟨⟨u, v, x, e⟩, _⟩
    · exact e
    · exfalso
      obtain ⟨cur, hc, _⟩ := h
      rw [hc] at e
      simp at e
      exact ht e.2.symm
theorem CQ.extT {t : TypeId} (ht : t ≠ 84) {B n : Nat} {w w' : World} {s : Bool} {ao : Option Addr} {l ca : Nat} {bo : Option Addr} {m cb : Nat} {q : Rat} {k : Nat} (h : CQ B w s ao l ca bo m cb q k) (hE : ExtT t n w w') : CQ B w' s ao l ca bo m cb q k := by
  obtain ⟨h1, h2, h3, h4, h5, h6⟩ := h
  exact ⟨h1, h2, h3, h4.extT ht hE, h5.extT ht hE, h6⟩
theorem IsQ.extT {t : TypeId} (ht : t ≠ 84) {q : Rat} {k n : Nat} {v : Value} {w w' : World} (h : IsQ q k v w) (hE : ExtT t n w w') : IsQ q k v w' := by
  obtain ⟨s, ao, l, ca, bo, m, cb, rfl, h⟩ := h
  exact ⟨s, ao, l, ca, bo, m, cb, rfl, h.extT ht hE⟩
def IsBoxT (t : TypeId) (n : Nat) (v : Value) (w : World) : Prop := ∃ g, v = .pointer (some ⟨g, 0, none⟩) ∧ n ≤ g ∧ BoxT t w g
theorem IsBoxT.extT {t : TypeId} {n m : Nat} {v : Value} {w w' : World} (h : IsBoxT t n v w) (hE : ExtT t m w w') : IsBoxT t n v w' := by
  obtain ⟨g, rfl, hn, hb⟩ := h
  refine ⟨g, rfl, hn, ?_⟩
  rcases hE.2 g hb.lt with e | ⟨_, h⟩
  · obtain ⟨u, v, x, h⟩ := hb; exact ⟨u, v, x, e.trans h⟩
  · exact h
def HoldsT (t : TypeId) (w : World) (p v : Value) : Prop := ∃ g a b c, p = .pointer (some ⟨g, 0, none⟩) ∧ v = .agg #[a, b, c] ∧ w.heap[g]? = some (.cells #[a, b, c] t (0, 0))
theorem HoldsT.new {t : TypeId} {w : World} {g : Nat} (h : BoxT t w g) (x y z : Value) : HoldsT t (((w.setCell ⟨g, 0, none⟩ x).setCell ⟨g, 1, none⟩ y).setCell ⟨g, 2, none⟩ z) (.pointer (some ⟨g, 0, none⟩)) (.agg #[x, y, z]) := by
  obtain ⟨u, v, s, h⟩ := h
  exact ⟨g, x, y, z, rfl, rfl, by simp [World.setCell, Array.getElem?_modify, h]⟩
theorem HoldsT.drew {t : TypeId} {w : World} {p v : Value} (h : HoldsT t w p v) : HoldsT t w.drew p v := h
theorem newBT (t : TypeId) (w : World) (u v x : Value) : BoxT t (w.alloc (.cells #[u, v, x] t)) w.heap.size := ⟨_, _, _, heap_alloc_new w _⟩

/-- what an operation yields -/
inductive Yld where
  | val (v : Value)
  | num (q : Rat) (k : Nat)
  | box
  | any
def OneR (t : TypeId) (n : Nat) (l : List Yld) (i : Nat) (v : Value) (w : World) : Prop :=
  match l[i]? with
  | some (.val x) => v = x
  | some (.num q k) => IsQ q k v w
  | some .box => IsBoxT t n v w
  | _ => True
theorem OneR.ext {t : TypeId} (ht : t ≠ 84) {n m : Nat} {l : List Yld} (i : Nat) (v : Value) (w w' : World) (h : OneR t n l i v w) (hE : ExtT t m w w') : OneR t n l i v w' := by
  unfold OneR at h ⊢
  split at h
  · exact h
  · exact IsQ.extT ht h hE
  · exact IsBoxT.extT h hE
  · trivial
/-- the box is filled -/
def OneX (t : TypeId) (j a u : Nat) (D : Nat → Bool) (f : Nat → Value) (w : World) : Prop := D j = true → HoldsT t w (f a) (f u)
end Go.Proofs.Ytdcnkebcpaelpaa
/- A drawn region that lays one box of a number and fills it; what each operation yields is a list of predicates. -/
namespace Go.Proofs.Ytdcnkebcpaelpaa
open Go.RowKit

/-- stands through worlds whose boxes may turn -/
def StT (t : TypeId) (p : Value → World → Prop) : Prop := ∀ m v w w', p v w → ExtT t m w w' → p v w'
def kV (x : Value) : Value → World → Prop := fun v _ => v = x
def kAny : Value → World → Prop := fun _ _ => True
def kQ (q : Rat) (k : Nat) : Value → World → Prop := IsQ q k
def kE (E : Int) (q : Rat) (k : Nat) : Value → World → Prop := fun v w => ∃ s ao n ca bo m cb, v = .tuple #[.agg #[.bool s, .slice ao n ca, .slice bo m cb], .int .i64 E] ∧ CQ 0 w s ao n ca bo m cb q k
def kBox (t : TypeId) (n : Nat) : Value → World → Prop := IsBoxT t n
theorem StT.v (t : TypeId) (x : Value) : StT t (kV x) := fun _ _ _ _ h _ => h
theorem StT.any (t : TypeId) : StT t kAny := fun _ _ _ _ h _ => h
theorem StT.q {t : TypeId} (ht : t ≠ 84) (q : Rat) (k : Nat) : StT t (kQ q k) := fun _ _ _ _ h hE => IsQ.extT ht h hE
theorem StT.e {t : TypeId} (ht : t ≠ 84) (E : Int) (q : Rat) (k : Nat) : StT t (kE E q k) := by
  rintro m v w w' ⟨s, ao, n, ca, bo, m, cb, rfl, h⟩ hE
  exact ⟨s, ao, n, ca, bo, m, cb, rfl, h.extT ht hE⟩
theorem StT.box (t : TypeId) (n : Nat) : StT t (kBox t n) := fun _ _ _ _ h hE => IsBoxT.extT h hE
def StTL (t : TypeId) : List (Value → World → Prop) → Prop
  | [] => True
  | p :: l => StT t p ∧ StTL t l
theorem StTL.all {t : TypeId} : ∀ {l : List (Value → World → Prop)}, StTL t l → ∀ p ∈ l, StT t p
  | [], _, p, hp => by simp at hp
  | q :: l, h, p, hp => by
    rcases List.mem_cons.1 hp with rfl | hp
    · exact h.1
    · exact h.2.all p hp
def LsP (l : List (Value → World → Prop)) (i : Nat) (v : Value) (w : World) : Prop := (l.getD i (fun _ _ => True)) v w
theorem LsP.ext {t : TypeId} {l : List (Value → World → Prop)} (h : ∀ p ∈ l, StT t p) {m : Nat} (i : Nat) (v : Value) (w w' : World) (hr : LsP l i v w) (hE : ExtT t m w w') : LsP l i v w' := by
  unfold LsP at hr ⊢
  rw [List.getD] at hr ⊢
  cases hg : l[i]? with
  | none => trivial
  | some p =>
    rw [hg] at hr
    exact h p (List.mem_of_getElem? hg) m v w w' hr hE
/-- a box of its own holds the number q, behind the world base -/
def BoxQ (base : World) (q : Rat) (k : Nat) (vb : Value) (w : World) : Prop := ∃ g s a n c o m d, vb = .pointer (some ⟨g, 0, none⟩) ∧ base.heap.size ≤ g ∧ w.heap[g]? = some (.cells #[.bool s, .slice a n c, .slice o m d] 40 (0, 0)) ∧ CQ 0 w s a n c o m d q k ∧ Below base.heap.size base w
theorem box_cut {base w : World} {q : Rat} {k : Nat} {vb v : Value} (hB : Below base.heap.size base w) (hb : IsBoxT 40 base.heap.size vb w) (hX : HoldsT 40 w vb v) (hv : IsQ q k v w) : BoxQ base q k vb w := by
  obtain ⟨g, rfl, hg, _⟩ := hb
  obtain ⟨g', a, b, c, e, rfl, h⟩ := hX
  cases e
  obtain ⟨s, ao, n, ca, bo, m, cb, e2, hq⟩ := hv
  cases e2
  exact ⟨g, s, ao, n, ca, bo, m, cb, rfl, hg, h, hq, hB⟩
end Go.Proofs.Ytdcnkebcpaelpaa
