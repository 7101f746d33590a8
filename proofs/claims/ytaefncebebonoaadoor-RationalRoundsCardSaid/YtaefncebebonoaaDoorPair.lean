import Derived.Test.YtaefncebebonoaaDoorRat10
import Derived.Test.YtaefncebebonoaaDoorInv
/- What operations of a drawn region yield, and what they do to the world. -/
namespace Go.Proofs.YtaefncebebonoaaDoor
open Go.RowKit

/-- a value that stands for the number q, in memory of the call's own -/
def IsQ (q : Rat) (k : Nat) (v : Value) (w : World) : Prop := ∃ s ao n ca bo m cb, v = .agg #[.bool s, .slice ao n ca, .slice bo m cb] ∧ CQ 0 w s ao n ca bo m cb q k
/-- blocks below n are as they were; of the others a struct's box alone may turn -/
def Ext (n : Nat) (w w' : World) : Prop := Below n w w' ∧ ∀ b, b < w.heap.size → w'.heap[b]? = w.heap[b]? ∨ (Box3 w b ∧ Box3 w' b)
theorem Ext.of_below {n : Nat} {w w' : World} (h : Below w.heap.size w w') (hn : n ≤ w.heap.size) : Ext n w w' := ⟨h.mono hn, fun b hb => .inl (h.block b hb)⟩
theorem Ext.refl (n : Nat) (w : World) : Ext n w w := ⟨Below.refl _ _, fun _ _ => .inl rfl⟩
theorem Ext.set3 {n g : Nat} {w : World} (h : Box3 w g) (hg : n ≤ g) (u v x : Value) : Ext n w (((w.setCell ⟨g, 0, none⟩ u).setCell ⟨g, 1, none⟩ v).setCell ⟨g, 2, none⟩ x) := by
  refine ⟨below3 (Below.refl _ _) hg _ _ _, fun b _ => ?_⟩
  by_cases hb : b = g
  · subst hb; exact .inr ⟨h, h.set3 _ _ _⟩
  · exact .inl (set3_off hb _ _ _)
theorem Fr.ext {B n : Nat} {w w' : World} {ao : Option Addr} {cap : Nat} {xs : List Nat} (h : Fr B w ao cap xs) (hE : Ext n w w') : Fr B w' ao cap xs := by
  obtain ⟨h1, h2, h3, h4⟩ := h
  refine ⟨h1, h2, h3, ?_⟩
  rcases h4 with h | ⟨b, rfl, hB, h⟩
  · exact .inl h
  · refine .inr ⟨b, rfl, hB, h.block ?_⟩
    rcases hE.2 b h.lt with e | ⟨⟨u, v, x, e⟩, _⟩
    · exact e
    · exfalso
      obtain ⟨cur, hc, _⟩ := h
      rw [hc] at e
      simp at e
theorem CQ.ext {B n : Nat} {w w' : World} {s : Bool} {ao : Option Addr} {l ca : Nat} {bo : Option Addr} {m cb : Nat} {q : Rat} {k : Nat} (h : CQ B w s ao l ca bo m cb q k) (hE : Ext n w w') : CQ B w' s ao l ca bo m cb q k := by
  obtain ⟨h1, h2, h3, h4, h5, h6⟩ := h
  exact ⟨h1, h2, h3, h4.ext hE, h5.ext hE, h6⟩
theorem IsQ.ext {q : Rat} {k n : Nat} {v : Value} {w w' : World} (h : IsQ q k v w) (hE : Ext n w w') : IsQ q k v w' := by
  obtain ⟨s, ao, l, ca, bo, m, cb, rfl, h⟩ := h
  exact ⟨s, ao, l, ca, bo, m, cb, rfl, h.ext hE⟩
theorem IsQ.below {q : Rat} {k : Nat} {v : Value} {w w' : World} (h : IsQ q k v w) (hb : Below w.heap.size w w') : IsQ q k v w' := h.ext (Ext.of_below (n := 0) hb (Nat.zero_le _))
theorem MakesQ.isq {q : Rat} {k : Nat} {w w' : World} {e : Ending} (h : MakesQ q k w e w') : ∃ v, e = .returned v ∧ IsQ q k v w' ∧ Below w.heap.size w w' := by
  obtain ⟨s, ao, n, ca, bo, m, cb, rfl, h, hb⟩ := h
  exact ⟨_, rfl, ⟨s, ao, n, ca, bo, m, cb, rfl, h.mono (Nat.zero_le _)⟩, hb⟩
/-- the address of a struct's box from block n on -/
def IsBox (n : Nat) (v : Value) (w : World) : Prop := ∃ g, v = .pointer (some ⟨g, 0, none⟩) ∧ n ≤ g ∧ Box3 w g
theorem IsBox.ext {n m : Nat} {v : Value} {w w' : World} (h : IsBox n v w) (hE : Ext m w w') : IsBox n v w' := by
  obtain ⟨g, rfl, hn, hb⟩ := h
  refine ⟨g, rfl, hn, ?_⟩
  have hl := hb.lt
  rcases hE.2 g hl with e | ⟨_, h⟩
  · obtain ⟨u, v, x, h⟩ := hb; exact ⟨u, v, x, e.trans h⟩
  · exact h
/-- the box at p holds the struct v -/
def Holds (w : World) (p v : Value) : Prop := ∃ g a b c, p = .pointer (some ⟨g, 0, none⟩) ∧ v = .agg #[a, b, c] ∧ w.heap[g]? = some (.cells #[a, b, c] 25 (0, 0))
theorem Holds.below {w w' : World} {p v : Value} (h : Holds w p v) (hb : Below w.heap.size w w') : Holds w' p v := by
  obtain ⟨g, a, b, c, rfl, rfl, h⟩ := h
  exact ⟨g, a, b, c, rfl, rfl, carry h hb⟩
theorem Holds.set3 {w : World} {p v : Value} {g : Nat} (h : Holds w p v) (hp : p ≠ .pointer (some ⟨g, 0, none⟩)) (x y z : Value) : Holds (((w.setCell ⟨g, 0, none⟩ x).setCell ⟨g, 1, none⟩ y).setCell ⟨g, 2, none⟩ z) p v := by
  obtain ⟨g', a, b, c, rfl, rfl, h⟩ := h
  refine ⟨g', a, b, c, rfl, rfl, (set3_off (fun e => ?_) _ _ _).trans h⟩
  subst e; exact hp rfl
theorem Holds.new {w : World} {g : Nat} (h : Box3 w g) (x y z : Value) : Holds (((w.setCell ⟨g, 0, none⟩ x).setCell ⟨g, 1, none⟩ y).setCell ⟨g, 2, none⟩ z) (.pointer (some ⟨g, 0, none⟩)) (.agg #[x, y, z]) := by
  obtain ⟨u, v, t, h⟩ := h
  exact ⟨g, x, y, z, rfl, rfl, set3_at h _ _ _⟩
def ZR : Obj := .cells #[.bool false, .slice none 0 0, .slice none 0 0] 25
theorem newB3 (w : World) : Box3 (w.alloc (.cells #[.bool false, .slice none 0 0, .slice none 0 0] 25)) w.heap.size := ⟨_, _, _, heap_alloc_new w _⟩
theorem box_ne {w : World} {n : Nat} {v : Value} (h : IsBox n v w) : v ≠ .pointer (some ⟨w.heap.size, 0, none⟩) := by
  obtain ⟨g, rfl, _, hb⟩ := h
  intro e
  injection e with e; injection e with e; injection e with e
  have := hb.lt
  omega
/-- two boxes that are laid and filled meanwhile: 'ia', 'ib' lay them into the slots ta, tb, 'ja', 'jb' store the slots va, vb -/
def PairX (ia ib ja jb ta tb va vb : Nat) (D : Nat → Bool) (f : Nat → Value) (w : World) : Prop :=
  (D ia = true → D ib = true → f ta ≠ f tb) ∧ (D ja = true → Holds w (f ta) (f va)) ∧ (D jb = true → Holds w (f tb) (f vb))
theorem hp_at {P : Nat → Prop} {l : List Nat} (h : ∀ k ∈ l, P k) (k : Nat) (hk : l.contains k = true) : P k := h k (by simpa using hk)
theorem no_of {D : Nat → Bool} {l : List Nat} {j k : Nat} (hcl : D j = true → ∀ k ∈ l, D k = true) (hk : l.contains k = true) (h : D k = false) : ¬ D j = true := by
  intro hj
  have := hcl hj k (by simpa using hk)
  rw [h] at this; cases this
end Go.Proofs.YtaefncebebonoaaDoor
