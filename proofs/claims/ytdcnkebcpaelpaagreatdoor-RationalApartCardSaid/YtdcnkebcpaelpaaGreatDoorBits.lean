import Derived.Test.YtdcnkebcpaelpaaGreatDoorRef1
import Derived.Test.YtdcnkebcpaelpaaGreatDoorShelf
/- Bits of both packages; the reference's FromUint, Uint and Compare. -/
namespace Go.Proofs.YtdcnkebcpaelpaaGreatDoor
open Go.RowKit

theorem bitLen_bl (n : Nat) (h : n < 18446744073709551616) : Lib.bitLen n = bl n := by
  induction n using Nat.strongRecOn with
  | _ n ih =>
    by_cases h0 : n = 0
    · subst h0; rfl
    · rw [Lib.bitLen_half n h0 (by omega), bl_half h0, ih (n / 2) (by omega) (by omega)]; omega

theorem len32_any (x : Nat) (w : World) (h1 : x < 4294967296) : Calls Tryz.prog 44 #[.int .u32 (x : Int)] w fun e w' => e = .returned (.int .i64 ((bl x : Nat) : Int)) ∧ w = w' := by
  refine (Tryz.bits_Len32 x w (by omega) (by omega)).mono ?_
  rintro e w' ⟨rfl, rfl⟩
  rw [Int.toNat_natCast, bitLen_bl x (by omega)]
  exact ⟨rfl, rfl⟩

set_option maxHeartbeats 400000 in
theorem Bits_any (ao : Option Addr) (cap : Nat) (xs : List Nat) (w : World) (h : Rd w ao cap xs) (hb : xs.length ≤ 1099511627776) :
    Calls Tryz.prog 23 #[.slice ao xs.length cap] w fun e w' => e = .returned (.int .i64 ((bl (val xs) : Nat) : Int)) ∧ w = w' := by
  have hl := trim_length_le xs
  have hm := h.max
  have hle := h.le
  by_cases h0 : (trim xs).length = 0
  · have hz := Lib.hid (bl_val_zero h0)
    have hd : (((trim xs).length : Int) == 0) = true := beq_iff_eq.2 (by omega)
    have h0h := Lib.hid h0; clear h0
    go_enter Tryz.func23, Tryz.ntmps23
    go_wp2_with fail
    refine (significant_any _ _ _ _ h).mono ?_; rintro e w' ⟨rfl, rfl⟩
    go_wp2
    go_ret
    exact ⟨ret_i64 (by rw [hz.out]; rfl), rfl⟩
  · obtain ⟨b, o, rfl, hc⟩ := h.at (by omega)
    have hc1 := hc ((trim xs).length - 1) (by omega)
    have hx := h.lims ((trim xs).length - 1)
    obtain ⟨e1, hp⟩ := bl_trim h.lims (by omega)
    have e1h := Lib.hid e1
    have hd : (((trim xs).length : Int) == 0) = false := beq_eq_false_iff_ne.2 (by omega)
    clear hc e1
    have hbl : bl (lm xs ((trim xs).length - 1)) ≤ 32 := bl_le.2 (by omega)
    go_enter Tryz.func23, Tryz.ntmps23
    go_wp2_with fail
    refine (significant_any _ _ _ _ h).mono ?_; rintro e w' ⟨rfl, rfl⟩
    go_wp2_with fail
    refine (len32_any _ _ hx).mono ?_; rintro e w' ⟨rfl, rfl⟩
    go_wp2
    go_ret
    refine ⟨ret_i64 (?_ : _ = _), rfl⟩
    rw [e1h.out]; omega

set_option maxHeartbeats 400000 in
theorem rFromUint_any (v : Int) (h0 : 0 ≤ v) (h1 : v ≤ 18446744073709551615) (w : World) :
    Calls Tryz.prog 63 #[.int .u64 v] w fun e w' => ∃ ao' cap', e = .returned (.slice ao' (dig v.toNat).length cap') ∧ Fr w.heap.size w' ao' cap' (dig v.toNat) ∧ Below w.heap.size w w' := by
  obtain ⟨n, rfl⟩ := Int.eq_ofNat_of_zero_le h0
  have hl : Lims [n % 4294967296, n / 4294967296] := lims_cons (by omega) (lims_cons (by omega) lims_nil)
  have hv : val [n % 4294967296, n / 4294967296] = n := by simp only [val]; omega
  have hown := Own.new w [n % 4294967296, n / 4294967296]
  have e : (lits [n % 4294967296, n / 4294967296]).toArray = #[.int .u32 ((n : Int) % 4294967296), .int .u32 ((n : Int) / 4294967296)] := by simp [lits]
  rw [e] at hown; clear e
  have hfr := Fr.of_own (B := w.heap.size) hown hl (Nat.le_refl _) 2 (by simp) (by omega)
  have hrd := hfr.rd
  have hvh := Lib.hid hv; clear hv
  have hand : bits BinOp.and IntKind.u64 (n : Int) 4294967295 = (n : Int) % 4294967296 := by rw [and_mask n (by omega)]; omega
  rw [Int.toNat_natCast]
  have hb0 : Below w.heap.size w (w.alloc (.cells #[.int .u32 ((n : Int) % 4294967296), .int .u32 ((n : Int) / 4294967296)] 35)) := (Below.refl _ _).alloc (Nat.le_refl _) _
  go_enter Tryz.func63, Tryz.ntmps63
  go_wp2_with fail
  refine (rTrim_len _ _ _ _ hrd (by simp) _ rfl).mono ?_
  rintro e w' ⟨ao', cap', rfl, hf, hb⟩
  go_wp2_with fail
  go_ret
  rw [hvh.out] at hf ⊢
  exact ⟨ao', cap', rfl, hf.mono (by simp), hb0.trans (hb.mono (by simp))⟩
end Go.Proofs.YtdcnkebcpaelpaaGreatDoor
