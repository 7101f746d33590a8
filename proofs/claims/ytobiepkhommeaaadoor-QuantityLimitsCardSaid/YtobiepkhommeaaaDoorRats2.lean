import Derived.Test.YtobiepkhommeaaaDoorRat5
/- Contracts of package rational and of its reference: signs; equality of results; the law's canonical. -/
namespace Go.Proofs.YtobiepkhommeaaaDoor
open Go.RowKit

theorem ret_i64e {a b : Int} (h : a = b) : Ending.returned (.int .i64 a) = .returned (.int .i64 b) := by rw [h]
/-- the boxes of two structs that came in -/
theorem boxesS (w : World) (s t : Bool) (ao bo po qo : Option Addr) (n ca m cb l cl j cj : Nat) : ∃ W1, W1 = (w.alloc (.cells #[.bool s, .slice ao n ca, .slice bo m cb] 52)).alloc (.cells #[.bool t, .slice po l cl, .slice qo j cj] 52) ∧ Below w.heap.size w W1 ∧
    Hid (∀ w', Below W1.heap.size W1 w' → w'.cell? ⟨w.heap.size, 0, none⟩ = some (.bool s) ∧ w'.cell? ⟨w.heap.size, 1, none⟩ = some (.slice ao n ca) ∧ w'.cell? ⟨w.heap.size, 2, none⟩ = some (.slice bo m cb) ∧ w'.cell? ⟨w.heap.size + 1, 0, none⟩ = some (.bool t) ∧ w'.cell? ⟨w.heap.size + 1, 1, none⟩ = some (.slice po l cl) ∧ w'.cell? ⟨w.heap.size + 1, 2, none⟩ = some (.slice qo j cj)) := by
  refine ⟨_, rfl, ?_⟩
  obtain ⟨U1, hU1⟩ : ∃ U1, U1 = w.alloc (.cells #[.bool s, .slice ao n ca, .slice bo m cb] 52) := ⟨_, rfl⟩
  obtain ⟨W1, hW1⟩ : ∃ W1, W1 = U1.alloc (.cells #[.bool t, .slice po l cl, .slice qo j cj] 52) := ⟨_, rfl⟩
  rw [← hU1, ← hW1]
  have s1 : U1.heap.size = w.heap.size + 1 := by rw [hU1]; simp
  have s3 : W1.heap.size = w.heap.size + 1 + 1 := by rw [hW1]; simp [s1]
  have x0 : W1.heap[w.heap.size]? = some (.cells #[.bool s, .slice ao n ca, .slice bo m cb] 52 (0, 0)) := by
    rw [hW1, Below.heap_alloc _ _ _ (by omega), hU1]; exact heap_alloc_new w _
  have y0 : W1.heap[w.heap.size + 1]? = some (.cells #[.bool t, .slice po l cl, .slice qo j cj] 52 (0, 0)) := by
    rw [hW1, ← s1]; exact heap_alloc_new U1 _
  refine ⟨?_, ?_⟩
  · rw [hW1, hU1]; exact (below_new w _).alloc (by simp) _
  · intro w' hb
    obtain ⟨a1, a2, a3, _⟩ := at_block ((hb.block w.heap.size (by omega)).trans x0)
    obtain ⟨b1, b2, b3, _⟩ := at_block ((hb.block (w.heap.size + 1) (by omega)).trans y0)
    exact ⟨a1, a2, a3, b1, b2, b3⟩
end Go.Proofs.YtobiepkhommeaaaDoor
/- Contract of the law's canonical. -/
namespace Go.Proofs.YtobiepkhommeaaaDoor
open Go.RowKit

theorem gcd_self (q : Rat) : Nat.gcd (rn q) q.den = 1 := q.reduced
theorem den_of_zero {q : Rat} (h : rn q = 0) : q.den = 1 ∧ rs q = false := by
  have h1 := gcd_self q
  rw [h, Nat.gcd_zero_left] at h1
  refine ⟨h1, ?_⟩
  unfold rn at h
  unfold rs
  exact decide_eq_false (by omega)
theorem top_ne {N : Nat} (h : 0 < N) : lm (dig N) ((dig N).length - 1) ≠ 0 := by
  rcases canon_dig N with e | e
  · exact absurd e (dig_ne_nil h)
  · exact e
theorem dig_one_cell : lm (dig 1) 0 = 1 := rfl
/-- a box of one struct alone -/
theorem boxC {w w' : World} {u v x : Value} {t : TypeId} (hb : Below (w.heap.size + 1) (w.alloc (.cells #[u, v, x] t)) w') : w'.cell? ⟨w.heap.size, 0, none⟩ = some u ∧ w'.cell? ⟨w.heap.size, 1, none⟩ = some v ∧ w'.cell? ⟨w.heap.size, 2, none⟩ = some x := by
  obtain ⟨a, b, c, _⟩ := box3 hb
  exact ⟨a, b, c⟩

end Go.Proofs.YtobiepkhommeaaaDoor
