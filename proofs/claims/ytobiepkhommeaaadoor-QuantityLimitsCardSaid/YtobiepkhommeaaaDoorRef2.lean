import Derived.Test.YtobiepkhommeaaaDoorBits
import Derived.Test.YtobiepkhommeaaaDoorDiv1
/- The reference's Uint and Compare. -/
namespace Go.Proofs.YtobiepkhommeaaaDoor
open Go.RowKit

theorem val_small2 {xs : List Nat} (h : (trim xs).length ≤ 2) : val xs = lm xs 0 + lm xs 1 * 4294967296 := by
  rw [← vl_two, ← vl_trim2 xs, ← val_trim xs]
  exact (vl_ge _ _ h).symm
theorem lm_trim_ge {xs : List Nat} {i : Nat} (h : (trim xs).length ≤ i) : lm xs i = 0 := by rw [← lm_trim]; exact lm_ge _ _ h

end Go.Proofs.YtobiepkhommeaaaDoor
