import Derived.Test.YtdcnkebcpaelpaaGreatDoorShl
import Derived.Test.YtdcnkebcpaelpaaGreatDoorMaths
import Derived.Test.YtdcnkebcpaelpaaGreatDoorNum5
/- Contracts of package natural: the leading bits of a number; a difference of two multiples. -/
namespace Go.Proofs.YtdcnkebcpaelpaaGreatDoor
open Go.RowKit

theorem window_math {N q p y0 y1 y2 z : Nat} (hN : N / pw q = y0 + 4294967296 * (y1 + 4294967296 * (y2 + 4294967296 * z))) (h0 : y0 < 4294967296) (h1 : y1 < 4294967296) (hp : p < 32) :
    (y0 + y1 * 4294967296) / 2 ^ p + y2 * 2 ^ (64 - p) % 18446744073709551616 = N / 2 ^ (32 * q + p) % 18446744073709551616 ∧ (y0 + y1 * 4294967296) / 2 ^ p < 2 ^ (64 - p) ∧ y2 * 2 ^ (64 - p) % 18446744073709551616 % 2 ^ (64 - p) = 0 := by
  obtain ⟨t, ht⟩ : ∃ t, t = 2 ^ p := ⟨_, rfl⟩
  obtain ⟨s, hs⟩ : ∃ s, s = 2 ^ (64 - p) := ⟨_, rfl⟩
  obtain ⟨r, hr⟩ : ∃ r, r = 2 ^ (32 - p) := ⟨_, rfl⟩
  have hts : t * s = 18446744073709551616 := by rw [ht, hs, ← Nat.pow_add, Nat.add_sub_cancel' (by omega)]
  have htr : t * r = 4294967296 := by rw [ht, hr]; exact two_pow_split (by omega)
  have ht0 : 0 < t := by rw [ht]; exact Nat.two_pow_pos p
  have hs0 : 0 < s := by rw [hs]; exact Nat.two_pow_pos _
  rw [← hs, ← ht]
  have hP : y0 + y1 * 4294967296 < t * s := by rw [hts]; omega
  obtain ⟨P, hPd⟩ : ∃ P, P = y0 + y1 * 4294967296 := ⟨_, rfl⟩
  rw [← hPd] at hP ⊢
  have hq : P / t < s := by rw [Nat.div_lt_iff_lt_mul ht0, Nat.mul_comm]; exact hP
  have hm : y2 * s % 18446744073709551616 % s = 0 := by
    rw [← hts, Nat.mod_mod_of_dvd _ ⟨t, Nat.mul_comm _ _⟩, Nat.mul_mod_left]
  refine ⟨?_, hq, hm⟩
  have e1 : N / 2 ^ (32 * q + p) = P / t + s * (y2 + 4294967296 * z) := by
    rw [Nat.pow_add, ← pw_two, ← Nat.div_div_eq_div_mul, hN, ← ht]
    have e2 : y0 + 4294967296 * (y1 + 4294967296 * (y2 + 4294967296 * z)) = P + t * (s * (y2 + 4294967296 * z)) := by
      rw [← Nat.mul_assoc t s, hts, hPd]; omega
    rw [e2, Nat.add_mul_div_left _ _ ht0]
  have e3 : s * (y2 + 4294967296 * z) = y2 * s + (t * s) * (r * z) := by
    rw [Nat.mul_add, ← htr]; grind
  rw [e1, e3, ← Nat.add_assoc, hts, Nat.add_mul_mod_self_left]
  have e4 : (P / t + y2 * s % (t * s)) < t * s := by
    have h5 : y2 * s % (t * s) = s * (y2 % t) := by rw [Nat.mul_comm t s, Nat.mul_comm y2 s, Nat.mul_mod_mul_left]
    have h6 := Nat.mod_lt y2 ht0
    have h7 : s * (y2 % t + 1) ≤ s * t := Nat.mul_le_mul_left _ h6
    rw [h5, Nat.mul_comm t s]; rw [Nat.mul_add] at h7; omega
  rw [Nat.add_mod, ← hts] at *
  rw [Nat.mod_eq_of_lt (show P / t < t * s by have := Nat.div_le_self P t; omega), Nat.mod_eq_of_lt e4]

theorem window_val (xs : List Nat) (q : Nat) (hx : Lims xs) : val xs / pw q = lm xs q + 4294967296 * (lm xs (q + 1) + 4294967296 * (lm xs (q + 2) + 4294967296 * val (xs.drop (q + 3)))) := by
  rw [← val_drop_any xs (q + 2), ← val_drop_any xs (q + 1), ← val_drop_any xs q]
  rcases Nat.le_total q xs.length with h | h
  · rw [vl_split xs q h, Nat.add_mul_div_left _ _ (pw_pos q), Nat.div_eq_of_lt (vl_lt hx q), Nat.zero_add]
  · rw [val_drop_ge xs q h, Nat.div_eq_of_lt (Nat.lt_of_lt_of_le (val_lt hx) (pw_mono h))]
theorem ret_u64 {a b : Int} (h : a = b) : Ending.returned (.int .u64 a) = .returned (.int .u64 b) := by rw [h]

set_option maxHeartbeats 1000000 in
set_option maxRecDepth 100000 in
theorem window_any (ao : Option Addr) (cap k q p : Nat) (xs : List Nat) (w : World) (h : Rd w ao cap xs) (hq : q ≤ 549755813888) (hp : p < 32) (hk : k = 32 * q + p) :
    Calls Tryz.prog 92 #[.slice ao xs.length cap, .int .i64 (k : Int)] w fun e w' => e = .returned (.int .u64 ((val xs / 2 ^ k % 18446744073709551616 : Nat) : Int)) ∧ Below w.heap.size w w' := by
  have hm := h.max
  have hle := h.le
  have hd1 : (k : Int) / 32 = (q : Int) := by omega
  have hd2 : (k : Int) % 32 = (p : Int) := by omega
  have hkb : (k : Int) ≤ 17592186044448 := by omega
  have l0 := h.lims q
  have l1 := h.lims (q + 1)
  have l2 := h.lims (q + 2)
  obtain ⟨m1, m2, m3⟩ := window_math (window_val xs q h.lims) l0 l1 hp
  rw [← hk] at m1
  obtain ⟨z, hz⟩ : ∃ z, z = lm xs q + lm xs (q + 1) * 4294967296 := ⟨_, rfl⟩
  have hor := or_join _ _ l1 l0
  rw [← hz] at hor m1 m2
  have hzb : (z : Int) ≤ 18446744073709551615 := by omega
  obtain ⟨r, hr⟩ : ∃ r, r = 64 - p := ⟨_, rfl⟩
  have hri : (64 : Int) - (p : Int) = (r : Int) := by omega
  have hrb : r ≤ 64 := by omega
  rw [← hr] at m1 m2 m3
  obtain ⟨hi, hhi⟩ : ∃ x, x = lm xs (q + 2) * 2 ^ r % 18446744073709551616 := ⟨_, rfl⟩
  obtain ⟨lo, hlo⟩ : ∃ x, x = z / 2 ^ p := ⟨_, rfl⟩
  rw [← hhi, ← hlo] at m1
  rw [← hlo] at m2
  rw [← hhi] at m3
  have hwh : IntKind.u64.wrap (((lm xs (q + 2) : Nat) : Int) * 2 ^ r) = (hi : Int) := by
    have e : ((lm xs (q + 2) * 2 ^ r : Nat) : Int) = ((lm xs (q + 2) : Nat) : Int) * 2 ^ r := by simp
    rw [← e, IntKind.wrap_u64, hhi]; omega
  have hlz : (z : Int) / 2 ^ p = (lo : Int) := by rw [hlo]; simp
  have hlb : lo ≤ z := by rw [hlo]; exact Nat.div_le_self _ _
  have hhb : hi < 18446744073709551616 := by rw [hhi]; exact Nat.mod_lt _ (by omega)
  have hor2 : bits BinOp.or IntKind.u64 (lo : Int) (hi : Int) = ((val xs / 2 ^ k % 18446744073709551616 : Nat) : Int) := by
    rw [u64_or_nat lo hi (by omega) hhb, Nat.or_comm, nat_join r hi lo m3 m2, Nat.add_comm, m1]
  obtain ⟨out, hout⟩ : ∃ x, x = val xs / 2 ^ k % 18446744073709551616 := ⟨_, rfl⟩
  rw [← hout] at hor2 ⊢
  clear m1 m2 m3 hz hr hhi hlo hk hout
  go_enter Tryz.func92, Tryz.ntmps92
  go_wp2_with fail
  refine (limb_any _ _ (q + 1) _ _ h _ (by omega)).mono ?_; rintro e w' ⟨rfl, rfl⟩
  go_wp2_with fail
  refine (limb_any _ _ q _ _ h _ (by omega)).mono ?_; rintro e w' ⟨rfl, rfl⟩
  go_wp2_with fail
  go_quiet ((go_at_call 65; exact Calls.quiet_of_same ((limb_any _ _ (q + 2) _ _ (by first | exact h.drewN _ | exact h) _ (by omega)).mono fun e w' h => ⟨h.1, h.2.symm⟩)))
  go_wp2_with fail
  go_ret
  exact ⟨rfl, below_drewN (Below.refl _ _) _⟩
end Go.Proofs.YtdcnkebcpaelpaaGreatDoor
/- Contract of natural.difference. -/
namespace Go.Proofs.YtdcnkebcpaelpaaGreatDoor
open Go.RowKit

theorem diff_step {V N1 N2 P p q c1 c2 β x y px qy d1 d2 o c1' c2' β' : Nat} (hv : V + q * N2 + c1 * P = p * N1 + (β + c2) * P) (hp : px = p * x) (hq : qy = q * y) (h1 : c1 + px = d1 + 4294967296 * c1') (h2 : c2 + qy = d2 + 4294967296 * c2') (h3 : o + d2 + β = d1 + 4294967296 * β') :
    V + o * P + q * (N2 + y * P) + c1' * (P * 4294967296) = p * (N1 + x * P) + (β' + c2') * (P * 4294967296) := by
  have e : (o + qy + 4294967296 * c1' + β + c2) * P = (px + 4294967296 * β' + 4294967296 * c2' + c1) * P := by congr 1; omega
  subst hp; subst hq
  grind
theorem diff_end {cs : List Nat} {m p q X Y D c1 c2 β : Nat} (hl : Lims cs) (hlen : cs.length = m) (h : val cs + q * Y + c1 * pw m = p * X + (β + c2) * pw m) (hD : p * X = D + q * Y) (hb : D < pw m) : val cs = D := by
  have h1 := val_lt hl
  rw [hlen] at h1
  have h2 : val cs + c1 * pw m = D + (β + c2) * pw m := by omega
  have h3 := congrArg (· % pw m) h2
  simp only [Nat.add_mul_mod_self_right, Nat.mod_eq_of_lt h1, Nat.mod_eq_of_lt hb] at h3
  exact h3

set_option maxHeartbeats 2000000 in
set_option maxRecDepth 100000 in
theorem difference_any (ao bo : Option Addr) (ca cb p q D : Nat) (xs ys : List Nat) (w : World) (ha : Rd w ao ca xs) (hb : Rd w bo cb ys) (hx : xs.length ≤ 549755813888) (hy : ys.length ≤ 549755813888) (hp : p < 4294967296) (hq : q < 4294967296)
    (hD : p * val xs = D + q * val ys) (hDx : D ≤ val xs ∨ D ≤ val ys) :
    Calls Tryz.prog 79 #[.int .u64 (p : Int), .slice ao xs.length ca, .int .u64 (q : Int), .slice bo ys.length cb] w (Makes D w) := by
  have hma := ha.max
  have hla := ha.le
  have hmb := hb.max
  have hlb := hb.le
  obtain ⟨m, hm1, hm2, hm3⟩ : ∃ m, xs.length ≤ m ∧ ys.length ≤ m ∧ m = max xs.length ys.length := ⟨_, by omega, by omega, rfl⟩
  have hm5 : m ≤ xs.length ∨ m ≤ ys.length := by omega
  have hmb2 : m ≤ 549755813888 := by omega
  have hDm : D < pw m := by
    rcases hDx with e | e
    · exact Nat.lt_of_le_of_lt e (Nat.lt_of_lt_of_le (val_lt ha.lims) (pw_mono hm1))
    · exact Nat.lt_of_le_of_lt e (Nat.lt_of_lt_of_le (val_lt hb.lims) (pw_mono hm2))
  have HDM := Lib.hid hDm
  have HD := Lib.hid hD
  clear hm3 hDm hD hDx
  obtain ⟨i0, hi, hz0, hz1, hz2⟩ := info_parts infoU32
  go_enter Tryz.func79, Tryz.ntmps79
  go_wp2_with (at_make; refine wpList_make_full _ rfl _ _ 23 rfl w.heap.size 35 i0 (.int .u32 0) 1 Tryz.underlying23 hi hz0 hz1 _ _ _ _ m rfl rfl (by omega) (by omega) (by rw [hz2]; omega) (by unfold maxLen; omega) (Nat.le_refl _) ?_; intro w1 hown hgr)
  all_goals
    have hown0 := Own.made hown
    clear hown hi hz0 hz1 hz2
    have hbel : Below w.heap.size w w1 := (Below.refl _ _).grown hgr (Nat.le_refl _) (fun k hk => by cases hk)
    go_loopw [10, 11, 12, 23] (fun s10 s11 s12 s23 wr => ∃ (i c1 c2 β : Nat) (cs : List Nat), i ≤ m ∧ s10 = .int .u64 c1 ∧ s11 = .int .u64 c2 ∧ s12 = .int .u64 β ∧ s23 = .int .i64 i ∧ c1 < 4294967296 ∧ c2 < 4294967296 ∧ β ≤ 1 ∧ Hid (cs.length = m) ∧ Lims cs ∧ Own wr w.heap.size cs ∧ Below w.heap.size w wr ∧
        Hid (vl cs i + q * vl ys i + c1 * pw i = p * vl xs i + (β + c2) * pw i)) (fun _ _ _ s23 _ => m - (intOf s23).toNat)
    case atStart => exact ⟨0, 0, 0, 0, _, by omega, rfl, rfl, rfl, rfl, by omega, by omega, by omega, List.length_replicate .., lims_replicate _, hown0, hbel, by simp [vl, Hid]⟩
    case round =>
      obtain ⟨i, c1, c2, β, cs, hi, rfl, rfl, rfl, rfl, hc1, hc2, hβ, hlen, hlc, hown, hbl, hv⟩ := hrel
      have har := ha.below hbl
      have hbr := hb.below hbl
      by_cases hlt : i < m
      · have hx1 := ha.lims i
        have hy1 := hb.lims i
        have hcell := hown.cell (j := i) (by rw [hlen.out]; exact hlt)
        have hfro := hown.frozen i
        obtain ⟨x, hxd⟩ : ∃ x, x = lm xs i := ⟨_, rfl⟩
        obtain ⟨y, hyd⟩ : ∃ y, y = lm ys i := ⟨_, rfl⟩
        rw [← hxd] at hx1
        rw [← hyd] at hy1
        have hpb := mul_le_limb hp hx1
        have hqb := mul_le_limb hq hy1
        obtain ⟨px, hpx⟩ : ∃ z, z = p * x := ⟨_, rfl⟩
        obtain ⟨qy, hqy⟩ : ∃ z, z = q * y := ⟨_, rfl⟩
        rw [← hpx] at hpb
        rw [← hqy] at hqb
        have hw1 : IntKind.u64.wrap ((p : Int) * (x : Int)) = (px : Int) := by rw [← Int.natCast_mul, ← hpx, IntKind.wrap_u64]; omega
        have hw2 : IntKind.u64.wrap ((q : Int) * (y : Int)) = (qy : Int) := by rw [← Int.natCast_mul, ← hqy, IntKind.wrap_u64]; omega
        obtain ⟨s1, hs1⟩ : ∃ z, z = c1 + px := ⟨_, rfl⟩
        obtain ⟨s2, hs2⟩ : ∃ z, z = c2 + qy := ⟨_, rfl⟩
        have hw3 : IntKind.u64.wrap ((c1 : Int) + (px : Int)) = (s1 : Int) := by rw [IntKind.wrap_u64]; omega
        have hw4 : IntKind.u64.wrap ((c2 : Int) + (qy : Int)) = (s2 : Int) := by rw [IntKind.wrap_u64]; omega
        have hs1b : (s1 : Int) ≤ 18446744073709551615 := by omega
        have hs2b : (s2 : Int) ≤ 18446744073709551615 := by omega
        obtain ⟨d1, hd1⟩ : ∃ z, z = s1 % 4294967296 := ⟨_, rfl⟩
        obtain ⟨d2, hd2⟩ : ∃ z, z = s2 % 4294967296 := ⟨_, rfl⟩
        have hand1 : bits BinOp.and IntKind.u64 (s1 : Int) 4294967295 = (d1 : Int) := by rw [and_mask s1 (by omega), hd1]
        have hand2 : bits BinOp.and IntKind.u64 (s2 : Int) 4294967295 = (d2 : Int) := by rw [and_mask s2 (by omega), hd2]
        obtain ⟨t1, ht1⟩ : ∃ z, z = (18446744073709551616 + d1 - d2) % 18446744073709551616 := ⟨_, rfl⟩
        have hw5 : IntKind.u64.wrap ((d1 : Int) - (d2 : Int)) = (t1 : Int) := by rw [IntKind.wrap_u64]; omega
        obtain ⟨r, hr⟩ : ∃ z, z = (18446744073709551616 + t1 - β) % 18446744073709551616 := ⟨_, rfl⟩
        have hw6 : IntKind.u64.wrap ((t1 : Int) - (β : Int)) = (r : Int) := by rw [IntKind.wrap_u64]; omega
        have hrb : (r : Int) ≤ 18446744073709551615 := by omega
        have b1 : s1 / 4294967296 < 4294967296 := by omega
        have b2 : s2 / 4294967296 < 4294967296 := by omega
        have X := Lib.hid hxd
        have Y := Lib.hid hyd
        have PX := Lib.hid hpx
        have QY := Lib.hid hqy
        have F1 := Lib.hid (show c1 + px = d1 + 4294967296 * (s1 / 4294967296) by omega)
        have F2 := Lib.hid (show c2 + qy = d2 + 4294967296 * (s2 / 4294967296) by omega)
        have F3 := Lib.hid (show r % 4294967296 + d2 + β = d1 + 4294967296 * (r / 9223372036854775808) by omega)
        have F4 := Lib.hid (show r / 9223372036854775808 ≤ 1 by omega)
        clear hxd hyd hpx hqy hs1 hs2 hd1 hd2 ht1 hr
        go_wp2_with fail
        refine (limb_any _ _ i _ _ har _ (by omega)).mono ?_; rintro e w' ⟨rfl, rfl⟩
        rw [← X.out]
        go_wp2_with fail
        refine (limb_any _ _ i _ _ hbr _ (by omega)).mono ?_; rintro e w' ⟨rfl, rfl⟩
        rw [← Y.out]
        go_wp2_with fail
        have e1 : (r : Int) % 4294967296 = ((r % 4294967296 : Nat) : Int) := by omega
        have hk1 : i < cs.length := by rw [hlen.out]; exact hlt
        have hown2 := hown.setCell (j := i) hk1 (r % 4294967296)
        rw [← e1] at hown2
        go_roundw
        case rel => exact ⟨i + 1, s1 / 4294967296, s2 / 4294967296, r / 9223372036854775808, _, by omega, by go_num, by go_num, by go_num, by go_num, b1, b2, F4.out, (List.length_set ..).trans hlen.out, lims_set hlc i _ (Nat.mod_lt _ (by omega)), hown2, hbl.setCell (Nat.le_refl _) _, by
          show _ = _
          rw [vl, vl, vl, vl_set_ge _ _ _ _ (Nat.le_refl _), lm_set _ _ _ _ hk1, if_pos rfl, pw_succ, ← X.out, ← Y.out]
          exact diff_step hv.out PX.out QY.out F1.out F2.out F3.out⟩
        case measure => simp [intOf]; omega
      · obtain rfl : i = m := by omega
        have hval : val cs = D := by
          have h1 := hv.out
          rw [vl_ge xs _ hm1, vl_ge ys _ hm2, vl_ge cs i (by rw [hlen.out]; exact Nat.le_refl _)] at h1
          exact diff_end hlc hlen.out h1 HD.out HDM.out
        have ht := trim_dig hlc
        rw [hval] at ht
        have T := Lib.hid ht
        have hfr := (Fr.of_own hown hlc (Nat.le_refl _) i (by rw [hlen.out]; exact Nat.le_refl _) (by omega))
        have hln := Lib.hid hlen.out.symm
        clear har hbr hgr hown0 hbel hlen hv ht hval
        go_wp2_with fail
        refine (significant_len _ _ _ _ hfr.rd _ hln.out).mono ?_; rintro e w' ⟨rfl, rfl⟩
        go_wp2_with fail
        go_ret
        have hfr2 := hfr.trim
        rw [T.out] at hfr2
        exact ⟨_, _, ret_len (congrArg List.length T.out), hfr2, hbl⟩
end Go.Proofs.YtdcnkebcpaelpaaGreatDoor
