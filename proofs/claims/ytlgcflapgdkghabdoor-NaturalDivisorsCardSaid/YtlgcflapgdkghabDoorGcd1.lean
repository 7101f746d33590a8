/- Contracts of package natural: the leading bits of a number; a difference of two multiples. -/
import Derived.Test.YtlgcflapgdkghabDoorShl
import Derived.Test.YtlgcflapgdkghabDoorGcdM
import Derived.Test.YtlgcflapgdkghabDoorNum5
namespace Go.Proofs.YtlgcflapgdkghabDoor
open Go.RowKit

theorem window_math {N q p y0 y1 y2 z : Nat} (hN : N / pw q = y0 + 4294967296 * (y1 + 4294967296 * (y2 + 4294967296 * z))) (h0 : y0 < 4294967296) (h1 : y1 < 4294967296) (hp : p < 32) :
    (y0 + y1 * 4294967296) / 2 ^ p + y2 * 2 ^ (64 - p) % 18446744073709551616 = N / 2 ^ (32 * q + p) % 18446744073709551616 ∧ (y0 + y1 * 4294967296) / 2 ^ p < 2 ^ (64 - p) ∧ y2 * 2 ^ (64 - p) % 18446744073709551616 % 2 ^ (64 - p) = 0 := by
  obtain ⟨t, ht⟩ : ∃ t, t = 2 ^ p := ⟨_, rfl⟩
  obtain ⟨s, hs⟩ : ∃ s, s = 2 ^ (64 - p) := ⟨_, rfl⟩
  obtain ⟨r, hr⟩ : ∃ r, r = 2 ^ (32 - p) := ⟨_, rfl⟩
  have hts : t * s = 18446744073709551616 := by rw [ht, hs, ← Nat.pow_add, Nat.add_sub_cancel' (by omega)]
  have htr : t * r = 4294967296 := by rw [ht, hr]; exact two_pow_split (by omega)
  have ht0 : 0 < t := by rw [ht]; exact Nat.two_pow_pos p
  have hs0 : 0 < s := by rw [hs]; exact Nat.two_pow_pos _
  rw [← hs, ← ht]
  have hP : y0 + y1 * 4294967296 < t * s := by rw [hts]; omega
  obtain ⟨P, hPd⟩ : ∃ P, P = y0 + y1 * 4294967296 := ⟨_, rfl⟩
  rw [← hPd] at hP ⊢
  have hq : P / t < s := by rw [Nat.div_lt_iff_lt_mul ht0, Nat.mul_comm]; exact hP
  have hm : y2 * s % 18446744073709551616 % s = 0 := by
    rw [← hts, Nat.mod_mod_of_dvd _ ⟨t, Nat.mul_comm _ _⟩, Nat.mul_mod_left]
  refine ⟨?_, hq, hm⟩
  have e1 : N / 2 ^ (32 * q + p) = P / t + s * (y2 + 4294967296 * z) := by
    rw [Nat.pow_add, ← pw_two, ← Nat.div_div_eq_div_mul, hN, ← ht]
    have e2 : y0 + 4294967296 * (y1 + 4294967296 * (y2 + 4294967296 * z)) = P + t * (s * (y2 + 4294967296 * z)) := by
      rw [← Nat.mul_assoc t s, hts, hPd]; omega
    rw [e2, Nat.add_mul_div_left _ _ ht0]
  have e3 : s * (y2 + 4294967296 * z) = y2 * s + (t * s) * (r * z) := by
    rw [Nat.mul_add, ← htr]; grind
  rw [e1, e3, ← Nat.add_assoc, hts, Nat.add_mul_mod_self_left]
  have e4 : (P / t + y2 * s % (t * s)) < t * s := by
    have h5 : y2 * s % (t * s) = s * (y2 % t) := by rw [Nat.mul_comm t s, Nat.mul_comm y2 s, Nat.mul_mod_mul_left]
    have h6 := Nat.mod_lt y2 ht0
    have h7 : s * (y2 % t + 1) ≤ s * t := Nat.mul_le_mul_left _ h6
    rw [h5, Nat.mul_comm t s]; rw [Nat.mul_add] at h7; omega
  rw [Nat.add_mod, ← hts] at *
  rw [Nat.mod_eq_of_lt (show P / t < t * s by have := Nat.div_le_self P t; omega), Nat.mod_eq_of_lt e4]

theorem window_val (xs : List Nat) (q : Nat) (hx : Lims xs) : val xs / pw q = lm xs q + 4294967296 * (lm xs (q + 1) + 4294967296 * (lm xs (q + 2) + 4294967296 * val (xs.drop (q + 3)))) := by
  rw [← val_drop_any xs (q + 2), ← val_drop_any xs (q + 1), ← val_drop_any xs q]
  rcases Nat.le_total q xs.length with h | h
  · rw [vl_split xs q h, Nat.add_mul_div_left _ _ (pw_pos q), Nat.div_eq_of_lt (vl_lt hx q), Nat.zero_add]
  · rw [val_drop_ge xs q h, Nat.div_eq_of_lt (Nat.lt_of_lt_of_le (val_lt hx) (pw_mono h))]
theorem ret_u64 {a b : Int} (h : a = b) : Ending.returned (.int .u64 a) = .returned (.int .u64 b) := by rw [h]

set_option maxHeartbeats 1000000 in
set_option maxRecDepth 100000 in
theorem window_any (ao : Option Addr) (cap k q p : Nat) (xs : List Nat) (w : World) (h : Rd w ao cap xs) (hq : q ≤ 549755813888) (hp : p < 32) (hk : k = 32 * q + p) :
    Calls Tryd.prog 48 #[.slice ao xs.length cap, .int .i64 (k : Int)] w fun e w' => e = .returned (.int .u64 ((val xs / 2 ^ k % 18446744073709551616 : Nat) : Int)) ∧ Below w.heap.size w w' := by
  have hm := h.max
  have hle := h.le
  have hd1 : (k : Int) / 32 = (q : Int) := by omega
  have hd2 : (k : Int) % 32 = (p : Int) := by omega
  have hkb : (k : Int) ≤ 17592186044448 := by omega
  have l0 := h.lims q
  have l1 := h.lims (q + 1)
  have l2 := h.lims (q + 2)
  obtain ⟨m1, m2, m3⟩ := window_math (window_val xs q h.lims) l0 l1 hp
  rw [← hk] at m1
  obtain ⟨z, hz⟩ : ∃ z, z = lm xs q + lm xs (q + 1) * 4294967296 := ⟨_, rfl⟩
  have hor := or_join _ _ l1 l0
  rw [← hz] at hor m1 m2
  have hzb : (z : Int) ≤ 18446744073709551615 := by omega
  obtain ⟨r, hr⟩ : ∃ r, r = 64 - p := ⟨_, rfl⟩
  have hri : (64 : Int) - (p : Int) = (r : Int) := by omega
  have hrb : r ≤ 64 := by omega
  rw [← hr] at m1 m2 m3
  obtain ⟨hi, hhi⟩ : ∃ x, x = lm xs (q + 2) * 2 ^ r % 18446744073709551616 := ⟨_, rfl⟩
  obtain ⟨lo, hlo⟩ : ∃ x, x = z / 2 ^ p := ⟨_, rfl⟩
  rw [← hhi, ← hlo] at m1
  rw [← hlo] at m2
  rw [← hhi] at m3
  have hwh : IntKind.u64.wrap (((lm xs (q + 2) : Nat) : Int) * 2 ^ r) = (hi : Int) := by
    have e : ((lm xs (q + 2) * 2 ^ r : Nat) : Int) = ((lm xs (q + 2) : Nat) : Int) * 2 ^ r := by simp
    rw [← e, IntKind.wrap_u64, hhi]; omega
  have hlz : (z : Int) / 2 ^ p = (lo : Int) := by rw [hlo]; simp
  have hlb : lo ≤ z := by rw [hlo]; exact Nat.div_le_self _ _
  have hhb : hi < 18446744073709551616 := by rw [hhi]; exact Nat.mod_lt _ (by omega)
  have hor2 : bits BinOp.or IntKind.u64 (lo : Int) (hi : Int) = ((val xs / 2 ^ k % 18446744073709551616 : Nat) : Int) := by
    rw [u64_or_nat lo hi (by omega) hhb, Nat.or_comm, nat_join r hi lo m3 m2, Nat.add_comm, m1]
  obtain ⟨out, hout⟩ : ∃ x, x = val xs / 2 ^ k % 18446744073709551616 := ⟨_, rfl⟩
  rw [← hout] at hor2 ⊢
  clear m1 m2 m3 hz hr hhi hlo hk hout
  go_enter Tryd.func48, Tryd.ntmps48
  go_wp2_with fail
  refine (limb_any _ _ (q + 1) _ _ h _ (by omega)).mono ?_; rintro e w' ⟨rfl, rfl⟩
  go_wp2_with fail
  refine (limb_any _ _ q _ _ h _ (by omega)).mono ?_; rintro e w' ⟨rfl, rfl⟩
  go_wp2_with fail
  go_quiet ((go_at_call 30; exact Calls.quiet_of_same ((limb_any _ _ (q + 2) _ _ (by first | exact h.drewN _ | exact h) _ (by omega)).mono fun e w' h => ⟨h.1, h.2.symm⟩)))
  go_wp2_with fail
  go_ret
  exact ⟨rfl, below_drewN (Below.refl _ _) _⟩
end Go.Proofs.YtlgcflapgdkghabDoor
