import Derived.Test.YtobiepkhommeaaaDoorPow2
import Derived.IntWalk
/- Contract of the reference's Power. -/
namespace Go.Proofs.YtobiepkhommeaaaDoor
open Go.RowKit

theorem Num.drewN {w : World} {ao : Option Addr} {n cap N : Nat} (h : Num w ao n cap N) (k : Nat) : Num (w.drewN k) ao n cap N := h.below (below_drewN (Below.refl _ _) k)
theorem sm_more {N K : Nat} (h : Sm N K) : N + N + 2 ≤ pw (K + 1) := by
  have := h.1; have h2 := pw_pos K; rw [pw_succ]; omega

end Go.Proofs.YtobiepkhommeaaaDoor
