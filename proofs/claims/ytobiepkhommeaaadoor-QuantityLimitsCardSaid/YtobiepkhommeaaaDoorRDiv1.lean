import Derived.Test.YtobiepkhommeaaaDoorShl
import Derived.Test.YtobiepkhommeaaaDoorRef1
import Derived.Test.YtobiepkhommeaaaDoorMaths
/- Contract of the reference's shifted. -/
namespace Go.Proofs.YtobiepkhommeaaaDoor
open Go.RowKit

/-- one limb, shifted and joined to the carry -/
theorem shd_limb {x s c : Nat} (hx : x < 4294967296) (hs : s < 32) (hc : c < 2 ^ s) : ∃ m, m = x * 2 ^ s + c ∧ m < 9223372036854775808 ∧ IntKind.u64.wrap ((x : Int) * 2 ^ s) = ((x * 2 ^ s : Nat) : Int) ∧ bits BinOp.or IntKind.u64 (c : Int) ((x * 2 ^ s : Nat) : Int) = (m : Int) ∧ m / 4294967296 < 2 ^ s ∧ c < 4294967296 := by
  have h1 : 2 ^ s ≤ 2 ^ 31 := Nat.pow_le_pow_right (by omega) (by omega)
  rw [show (2 : Nat) ^ 31 = 2147483648 by rfl] at h1
  have h2 : x * 2 ^ s ≤ 4294967295 * 2147483648 := Nat.mul_le_mul (by omega) h1
  have h3 : (x + 1) * 2 ^ s ≤ 4294967296 * 2 ^ s := Nat.mul_le_mul_right _ hx
  rw [Nat.succ_mul] at h3
  have h4 := nat_join s (x * 2 ^ s) c (Nat.mul_mod_left _ _) hc
  have h5 := u64_or_nat c (x * 2 ^ s) (by omega) (by omega)
  rw [Nat.or_comm, h4] at h5
  refine ⟨_, rfl, by omega, shl_wrap (by omega), h5, ?_, by omega⟩
  rw [Nat.div_lt_iff_lt_mul (by omega)]
  have h6 : 4294967296 * 2 ^ s = 2 ^ s * 4294967296 := Nat.mul_comm _ _
  omega

end Go.Proofs.YtobiepkhommeaaaDoor
