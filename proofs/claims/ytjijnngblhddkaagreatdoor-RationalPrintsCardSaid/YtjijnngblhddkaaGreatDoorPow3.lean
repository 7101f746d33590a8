import Derived.Test.YtjijnngblhddkaaGreatDoorPow2
import Derived.IntWalk
/- Contract of the reference's Power. -/
namespace Go.Proofs.YtjijnngblhddkaaGreatDoor
open Go.RowKit

theorem Num.drewN {w : World} {ao : Option Addr} {n cap N : Nat} (h : Num w ao n cap N) (k : Nat) : Num (w.drewN k) ao n cap N := h.below (below_drewN (Below.refl _ _) k)
theorem raise_numD {ao : Option Addr} {n ca N k K R : Nat} {w : World} (i : Int) (hi : i = (k : Int)) (ha : Num w ao n ca N) (hk : k < 9223372036854775808) (hs : Sm (N ^ k + N + 1) K) (hR : N ^ k = R) : Calls Tryz.prog 51 #[.slice ao n ca, .int .i64 i] w (Makes R w) := by
  subst hR; subst hi; exact Raise_num ha hk hs
theorem sm_more {N K : Nat} (h : Sm N K) : N + N + 2 ≤ pw (K + 1) := by
  have := h.1; have h2 := pw_pos K; rw [pw_succ]; omega

end Go.Proofs.YtjijnngblhddkaaGreatDoor
