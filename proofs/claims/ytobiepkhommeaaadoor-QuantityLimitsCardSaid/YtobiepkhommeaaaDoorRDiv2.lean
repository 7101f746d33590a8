import Derived.Test.YtobiepkhommeaaaDoorRDiv1
import Derived.Test.YtobiepkhommeaaaDoorRef2
import Derived.Test.YtobiepkhommeaaaDoorRef3
import Derived.Test.YtobiepkhommeaaaDoorDiv3
import Derived.Deep.LoopGhost
import Derived.BigRegion
/- Contract of the reference's Divide, where the divisor has two limbs or more. -/
namespace Go.Proofs.YtobiepkhommeaaaDoor
open Go.RowKit

theorem take_val {cs : List Nat} {n : Nat} (hl : cs.length = n + 1) (h : val cs < pw n) : val (cs.take n) = val cs := by
  have e := vl_split cs n (by omega)
  rw [val_take cs n (by omega)]
  rcases Nat.eq_zero_or_pos (val (cs.drop n)) with z | z
  · rw [z] at e; omega
  · have : pw n * 1 ≤ pw n * val (cs.drop n) := Nat.mul_le_mul_left _ z
    omega
theorem vs_two (cs : List Nat) (o k : Nat) : vs cs o (k + 3) = vs cs o (k + 1) + (lm cs (o + (k + 1)) + lm cs (o + (k + 2)) * 4294967296) * pw (k + 1) := by
  rw [vs, vs, pw_succ (k + 1)]; grind
theorem Own.setFar {w : World} {b g : Nat} {cs : List Nat} (h : Own w g cs) (hne : g ≠ b) (j : Nat) (v : Value) : Own (w.setCell ⟨b, j, none⟩ v) g cs := h.block (Below.heap_setCell _ _ _ _ hne)
theorem back_top {V c P F D x d q : Nat} (h1 : V + c * P = F + D) (h2 : d + 4294967296 * q = c + x) : V + d * P + q * (P * 4294967296) = F + x * P + D := by
  have h3 : (d + 4294967296 * q) * P = (c + x) * P := by rw [h2]
  grind
theorem vl_one (cs : List Nat) (k : Nat) : vl cs (k + 2) = vl cs (k + 1) + lm cs (k + 1) * pw (k + 1) := rfl
/-- the guess and the quotient's digit -/
theorem rguess_fits {U D q g V1 V2 top high P : Nat} (hu : U = V1 + top * P) (hV1 : V1 < P) (hd : D = V2 + high * P) (hh : 0 < high) (hUD : U < D * 4294967296) (hD : 0 < D) (hq : q = U / D) (hg : g = min (top / high) 4294967295) : q ≤ g ∧ U < (q + 1) * D ∧ g < 4294967296 := by
  have h0 : q * D ≤ U := by rw [hq]; exact Nat.div_mul_le_self _ _
  have h1 : U < (q + 1) * D := by have := Nat.lt_succ_self (U / D); rw [hq]; rwa [Nat.div_lt_iff_lt_mul hD] at this
  have h2 := rguess_ge (top := top) (P := P) hh h0 (by rw [hu, Nat.succ_mul]; omega) (by omega) hUD
  exact ⟨by omega, h1, by omega⟩

end Go.Proofs.YtobiepkhommeaaaDoor
