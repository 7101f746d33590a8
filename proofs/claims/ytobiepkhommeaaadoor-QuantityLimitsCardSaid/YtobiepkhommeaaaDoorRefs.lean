import Derived.Test.YtobiepkhommeaaaDoorRef3
import Derived.Test.YtobiepkhommeaaaDoorRef2
/- Contract of the reference's Sub. -/
namespace Go.Proofs.YtobiepkhommeaaaDoor
open Go.RowKit

/-- one limb of a difference -/
theorem dif_step (V A B P x y b d b' : Nat) (h : V + B = A + b * P) (h2 : x + 4294967296 * b' = d + y + b) : V + d * P + (B + y * P) = A + x * P + b' * (P * 4294967296) := by
  have h3 : (x + 4294967296 * b') * P = (d + y + b) * P := by rw [h2]
  grind
theorem dif_end {ds ys : List Nat} {N m β : Nat} (hd : Lims ds) (h1 : ds.length = m) (h : vl ds m + val ys = N + β * pw m) (hle : val ys ≤ N) : val ds = N - val ys := by
  rw [← h1, vl_all, h1] at h
  have h3 := val_lt hd
  rw [h1] at h3
  rcases Nat.eq_zero_or_pos β with e | e
  · subst e; omega
  · have h4 : 1 * pw m ≤ β * pw m := Nat.mul_le_mul_right _ e
    omega

end Go.Proofs.YtobiepkhommeaaaDoor
/- Contract of the reference's Mul. -/
namespace Go.Proofs.YtobiepkhommeaaaDoor
open Go.RowKit

end Go.Proofs.YtobiepkhommeaaaDoor
