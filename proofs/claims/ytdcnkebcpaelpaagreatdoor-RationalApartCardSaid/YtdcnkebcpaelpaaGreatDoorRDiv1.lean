import Derived.Test.YtdcnkebcpaelpaaGreatDoorShl
import Derived.Test.YtdcnkebcpaelpaaGreatDoorRef1
import Derived.Test.YtdcnkebcpaelpaaGreatDoorMaths
/- Contract of the reference's shifted. -/
namespace Go.Proofs.YtdcnkebcpaelpaaGreatDoor
open Go.RowKit

/-- one limb, shifted and joined to the carry -/
theorem shd_limb {x s c : Nat} (hx : x < 4294967296) (hs : s < 32) (hc : c < 2 ^ s) : ∃ m, m = x * 2 ^ s + c ∧ m < 9223372036854775808 ∧ IntKind.u64.wrap ((x : Int) * 2 ^ s) = ((x * 2 ^ s : Nat) : Int) ∧ bits BinOp.or IntKind.u64 (c : Int) ((x * 2 ^ s : Nat) : Int) = (m : Int) ∧ m / 4294967296 < 2 ^ s ∧ c < 4294967296 := by
  have h1 : 2 ^ s ≤ 2 ^ 31 := Nat.pow_le_pow_right (by omega) (by omega)
  rw [show (2 : Nat) ^ 31 = 2147483648 by rfl] at h1
  have h2 : x * 2 ^ s ≤ 4294967295 * 2147483648 := Nat.mul_le_mul (by omega) h1
  have h3 : (x + 1) * 2 ^ s ≤ 4294967296 * 2 ^ s := Nat.mul_le_mul_right _ hx
  rw [Nat.succ_mul] at h3
  have h4 := nat_join s (x * 2 ^ s) c (Nat.mul_mod_left _ _) hc
  have h5 := u64_or_nat c (x * 2 ^ s) (by omega) (by omega)
  rw [Nat.or_comm, h4] at h5
  refine ⟨_, rfl, by omega, shl_wrap (by omega), h5, ?_, by omega⟩
  rw [Nat.div_lt_iff_lt_mul (by omega)]
  have h6 : 4294967296 * 2 ^ s = 2 ^ s * 4294967296 := Nat.mul_comm _ _
  omega

set_option maxHeartbeats 1000000 in
set_option maxRecDepth 100000 in
theorem shifted_any (ao : Option Addr) (cap n s : Nat) (xs : List Nat) (w : World) (h : Rd w ao cap xs) (hb : xs.length ≤ 549755813888) (hs : s < 32) (hn : n = xs.length) :
    Calls Tryz.prog 68 #[.slice ao n cap, .int .i64 (s : Int)] w fun e w' => ∃ cs : List Nat, e = .returned (.slice (some ⟨w.heap.size, 0, none⟩) (n + 1) (n + 1)) ∧ cs.length = n + 1 ∧ Lims cs ∧ val cs = val xs * 2 ^ s ∧ Own w' w.heap.size cs ∧ Below w.heap.size w w' := by
  subst hn
  have hm := h.max
  have hle := h.le
  obtain ⟨i0, hi, hz0, hz1, hz2⟩ := info_parts infoU32
  go_enter Tryz.func68, Tryz.ntmps68
  go_wp2_with (at_make; refine wpList_make_full _ rfl _ _ 23 rfl w.heap.size 35 i0 (.int .u32 0) 1 Tryz.underlying23 hi hz0 hz1 _ _ _ _ (xs.length + 1) rfl rfl (by omega) (by omega) (by rw [hz2]; omega) (by unfold maxLen; omega) (Nat.le_refl _) ?_; intro w1 hown hgr)
  have hown0 := Own.made hown
  clear hown hi hz0 hz1 hz2
  have hbel : Below w.heap.size w w1 := (Below.refl _ _).grown hgr (Nat.le_refl _) (fun k hk => by cases hk)
  go_loopw [6, 14] (fun s6 s14 wr => ∃ (i c : Nat) (cs : List Nat), i ≤ xs.length ∧ s6 = .int .u64 c ∧ s14 = .int .i64 i ∧ c < 2 ^ s ∧ Hid (cs.length = xs.length + 1) ∧ Lims cs ∧ Own wr w.heap.size cs ∧ Below w.heap.size w wr ∧
      Hid (vl cs i + c * pw i = vl xs i * 2 ^ s)) (fun _ s14 _ => xs.length - (intOf s14).toNat)
  case atStart => exact ⟨0, 0, _, by omega, rfl, rfl, Nat.two_pow_pos s, List.length_replicate .., lims_replicate _, hown0, hbel, by show _ = _; simp [vl]⟩
  case round =>
    obtain ⟨i, c, cs, hi, rfl, rfl, hc, hlen, hlc, hown, hbl, hv⟩ := hrel
    have har := h.below hbl
    by_cases hlt : i < xs.length
    · obtain ⟨b2, o2, rfl, hcn⟩ := har.at (by omega)
      have hcn1 := hcn i hlt
      have hx := h.lims i
      have hcell := hown.cell (j := i) (by rw [hlen.out]; omega)
      have hfro := hown.frozen i
      obtain ⟨x, hxd⟩ : ∃ x, x = lm xs i := ⟨_, rfl⟩
      rw [← hxd] at hx hcn1
      obtain ⟨m, hm0, hm1, hw1, hor, hm2, hc3⟩ := shd_limb hx hs hc
      have hand := and_mask m (by omega)
      obtain ⟨p, hp⟩ : ∃ p, p = x * 2 ^ s := ⟨_, rfl⟩
      rw [← hp] at hw1 hor
      have hmb : (m : Int) ≤ 18446744073709551615 := by omega
      have hpb : (p : Int) ≤ 18446744073709551615 := by omega
      have X := Lib.hid hxd
      have M := Lib.hid hm0
      have M2 := Lib.hid hm2
      clear hcn hxd hm0 hp hm2 hc
      go_wp2_with fail
      have e1 : (m : Int) / 4294967296 = ((m / 4294967296 : Nat) : Int) := by omega
      have hk1 : i < cs.length := by rw [hlen.out]; omega
      have hown2 := hown.setCell (j := i) hk1 (m % 4294967296)
      go_roundw
      case rel => exact ⟨i + 1, m / 4294967296, cs.set i (m % 4294967296), by omega, by go_num, by go_num, M2.out, by show _ = _; rw [List.length_set]; exact hlen.out, lims_set hlc _ _ (by omega), hown2, hbl.setCell (Nat.le_refl _) _, by
          show _ = _
          rw [vl, vl_set_ge _ _ _ _ (Nat.le_refl _), lm_set _ _ _ _ hk1, if_pos rfl, vl, pw_succ, ← X.out]
          have hv2 := hv.out
          have hmm : m % 4294967296 + 4294967296 * (m / 4294967296) = x * 2 ^ s + c := by rw [← M.out]; omega
          have hmp : (m % 4294967296 + 4294967296 * (m / 4294967296)) * pw i = (x * 2 ^ s + c) * pw i := by rw [hmm]
          rw [Nat.add_mul _ (x * pw i), ← hv2]
          grind⟩
      case measure => simp [intOf]; omega
    · obtain rfl : i = xs.length := by omega
      have hk1 : xs.length < cs.length := by rw [hlen.out]; omega
      have hcell := hown.cell (j := xs.length) hk1
      have hfro := hown.frozen xs.length
      have hc1 : 2 ^ s ≤ 2 ^ 31 := Nat.pow_le_pow_right (by omega) (by omega)
      rw [show (2 : Nat) ^ 31 = 2147483648 by rfl] at hc1
      have hc2 : c < 4294967296 := by omega
      have hown2 := hown.setCell (j := xs.length) hk1 c
      have hval : Hid (val (cs.set xs.length c) = val xs * 2 ^ s) := by
        show _ = _
        have h1 := hv.out
        rw [vl_all] at h1
        rw [← vl_all, List.length_set, hlen.out, vl, vl_set_ge _ _ _ _ (Nat.le_refl _), lm_set _ _ _ _ hk1, if_pos rfl, h1]
      clear hc1 hc hv
      go_wp2_with fail
      go_ret
      exact ⟨cs.set xs.length c, rfl, by rw [List.length_set]; exact hlen.out, lims_set hlc _ _ hc2, hval.out, hown2, hbl.setCell (Nat.le_refl _) _⟩
end Go.Proofs.YtdcnkebcpaelpaaGreatDoor
