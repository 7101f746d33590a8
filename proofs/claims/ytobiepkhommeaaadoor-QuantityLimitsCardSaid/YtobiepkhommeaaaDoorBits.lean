import Derived.Test.YtobiepkhommeaaaDoorRef1
import Derived.Test.YtobiepkhommeaaaDoorShelf
/- Bits of both packages; the reference's FromUint, Uint and Compare. -/
namespace Go.Proofs.YtobiepkhommeaaaDoor
open Go.RowKit

theorem bitLen_bl (n : Nat) (h : n < 18446744073709551616) : Lib.bitLen n = bl n := by
  induction n using Nat.strongRecOn with
  | _ n ih =>
    by_cases h0 : n = 0
    · subst h0; rfl
    · rw [Lib.bitLen_half n h0 (by omega), bl_half h0, ih (n / 2) (by omega) (by omega)]; omega

theorem len32_any (x : Nat) (w : World) (h1 : x < 4294967296) : Calls Tryd.prog 62 #[.int .u32 (x : Int)] w fun e w' => e = .returned (.int .i64 ((bl x : Nat) : Int)) ∧ w = w' := by
  refine (Tryd.bits_Len32 x w (by omega) (by omega)).mono ?_
  rintro e w' ⟨rfl, rfl⟩
  rw [Int.toNat_natCast, bitLen_bl x (by omega)]
  exact ⟨rfl, rfl⟩

set_option maxHeartbeats 400000 in
theorem Bits_any (ao : Option Addr) (cap : Nat) (xs : List Nat) (w : World) (h : Rd w ao cap xs) (hb : xs.length ≤ 1099511627776) :
    Calls Tryd.prog 50 #[.slice ao xs.length cap] w fun e w' => e = .returned (.int .i64 ((bl (val xs) : Nat) : Int)) ∧ w = w' := by
  have hl := trim_length_le xs
  have hm := h.max
  have hle := h.le
  by_cases h0 : (trim xs).length = 0
  · have hz := Lib.hid (bl_val_zero h0)
    have hd : (((trim xs).length : Int) == 0) = true := beq_iff_eq.2 (by omega)
    have h0h := Lib.hid h0; clear h0
    go_enter Tryd.func50, Tryd.ntmps50
    go_wp2_with fail
    refine (significant_any _ _ _ _ h).mono ?_; rintro e w' ⟨rfl, rfl⟩
    go_wp2
    go_ret
    exact ⟨ret_i64 (by rw [hz.out]; rfl), rfl⟩
  · obtain ⟨b, o, rfl, hc⟩ := h.at (by omega)
    have hc1 := hc ((trim xs).length - 1) (by omega)
    have hx := h.lims ((trim xs).length - 1)
    obtain ⟨e1, hp⟩ := bl_trim h.lims (by omega)
    have e1h := Lib.hid e1
    have hd : (((trim xs).length : Int) == 0) = false := beq_eq_false_iff_ne.2 (by omega)
    clear hc e1
    have hbl : bl (lm xs ((trim xs).length - 1)) ≤ 32 := bl_le.2 (by omega)
    go_enter Tryd.func50, Tryd.ntmps50
    go_wp2_with fail
    refine (significant_any _ _ _ _ h).mono ?_; rintro e w' ⟨rfl, rfl⟩
    go_wp2_with fail
    refine (len32_any _ _ hx).mono ?_; rintro e w' ⟨rfl, rfl⟩
    go_wp2
    go_ret
    refine ⟨ret_i64 (?_ : _ = _), rfl⟩
    rw [e1h.out]; omega

end Go.Proofs.YtobiepkhommeaaaDoor
