import Derived.Test.YtdcnkebcpaelpaaGreatDoorNats2
import Derived.Test.YtdcnkebcpaelpaaGreatDoorMaths
import Derived.Deep.QuietTactic
import Derived.BigQuiet
/- Contracts of package natural: shifts. -/
namespace Go.Proofs.YtdcnkebcpaelpaaGreatDoor
open Go.RowKit

/-- one limb, shifted: its word, and what is or'ed to the carry -/
theorem shl_limb {x p c : Nat} (hx : x < 4294967296) (hp : p < 32) (hc : c < 2 ^ p) : ∃ m d, m = x * 2 ^ p ∧ m < 9223372036854775808 ∧ d = c + m % 4294967296 ∧ bits BinOp.or IntKind.u32 (c : Int) ((m : Int) % 4294967296) = ((c + m % 4294967296 : Nat) : Int) ∧ d < 4294967296 := by
  have h1 : 2 ^ p ≤ 2 ^ 31 := Nat.pow_le_pow_right (by omega) (by omega)
  rw [show (2 : Nat) ^ 31 = 2147483648 by rfl] at h1
  have h2 : x * 2 ^ p ≤ 4294967295 * 2147483648 := Nat.mul_le_mul (by omega) h1
  have hd : 2 ^ p ∣ 4294967296 := ⟨2 ^ (32 - p), (two_pow_split (by omega)).symm⟩
  have h3 : x * 2 ^ p % 4294967296 % 2 ^ p = 0 := by rw [Nat.mod_mod_of_dvd _ hd]; exact Nat.mul_mod_left _ _
  have h4 := nat_join p _ c h3 hc
  rw [Nat.or_comm] at h4
  have hcb : c < 4294967296 := by omega
  have h5 : c ||| x * 2 ^ p % 4294967296 < 2 ^ 32 := Nat.or_lt_two_pow (by omega) (by omega)
  rw [h4, show (2 : Nat) ^ 32 = 4294967296 by rfl] at h5
  refine ⟨_, _, rfl, by omega, rfl, ?_, by omega⟩
  have h6 := u32_or_nat c (x * 2 ^ p % 4294967296) hcb (by omega)
  rw [h4, Nat.add_comm] at h6
  rw [← h6]; congr 1
theorem shl_wrap {x p : Nat} (h : x * 2 ^ p < 9223372036854775808) : IntKind.u64.wrap ((x : Int) * 2 ^ p) = ((x * 2 ^ p : Nat) : Int) := by
  have e : ((x * 2 ^ p : Nat) : Int) = (x : Int) * 2 ^ p := by simp
  rw [← e, IntKind.wrap_u64]; omega
theorem shl_hi {x p m : Nat} (hm : m = x * 2 ^ p) (hx : x < 4294967296) : m / 4294967296 < 2 ^ p := by
  rw [hm, Nat.div_lt_iff_lt_mul (by omega), Nat.mul_comm]
  exact Nat.mul_lt_mul_of_pos_left hx (Nat.two_pow_pos p)

set_option maxHeartbeats 1000000 in
set_option maxRecDepth 100000 in
theorem shiftLeft_any (ao : Option Addr) (cap k q p : Nat) (xs : List Nat) (w : World) (h : Rd w ao cap xs) (hb : xs.length ≤ 549755813888) (hq : q ≤ 549755813000) (hp : p < 32) (hk : k = 32 * q + p) :
    Calls Tryz.prog 81 #[.slice ao xs.length cap, .int .i64 (k : Int)] w fun e w' => ∃ ao' cap', e = .returned (.slice ao' (dig (val xs * 2 ^ k)).length cap') ∧ Fr w.heap.size w' ao' cap' (dig (val xs * 2 ^ k)) ∧ Below w.heap.size w w' := by
  have hm := h.max
  have hle := h.le
  have hd1 : (k : Int) / 32 = (q : Int) := by omega
  have hd2 : (k : Int) % 32 = (p : Int) := by omega
  obtain ⟨i0, hi, hz0, hz1, hz2⟩ := info_parts infoU32
  have hkb : (k : Int) ≤ 17592186016032 := by omega
  have K := Lib.hid hk
  clear hk
  go_enter Tryz.func81, Tryz.ntmps81
  go_wp2_with (at_make; refine wpList_make_full _ rfl _ _ 23 rfl w.heap.size 35 i0 (.int .u32 0) 1 Tryz.underlying23 hi hz0 hz1 _ _ _ _ (xs.length + q + 1) rfl rfl (by omega) (by omega) (by rw [hz2]; omega) (by unfold maxLen; omega) (Nat.le_refl _) ?_; intro w1 hown hgr)
  have hown0 := Own.made hown
  clear hown hi hz0 hz1 hz2
  have hbel : Below w.heap.size w w1 := (Below.refl _ _).grown hgr (Nat.le_refl _) (fun k hk => by cases hk)
  go_loopw [22] (fun s22 wr => ∃ (i : Nat) (cs : List Nat), i ≤ xs.length ∧ s22 = .int .i64 i ∧ Hid (cs.length = xs.length + q + 1) ∧ Lims cs ∧ Own wr w.heap.size cs ∧ Below w.heap.size w wr ∧ lm cs (q + i) < 2 ^ p ∧ Hid (∀ j, q + i < j → lm cs j = 0) ∧
      Hid (vl cs (q + i) + lm cs (q + i) * pw (q + i) = vl xs i * pw q * 2 ^ p)) (fun s22 _ => xs.length - (intOf s22).toNat)
  case atStart => exact ⟨0, _, by omega, rfl, List.length_replicate .., lims_replicate _, hown0, hbel, by rw [lm_replicate]; exact Nat.two_pow_pos p, fun j _ => lm_replicate _ _, by show _ = _; rw [vl_replicate, lm_replicate, vl]; omega⟩
  case round =>
    obtain ⟨i, cs, hi, rfl, hlen, hlc, hown, hbl, hc, hzero, hv⟩ := hrel
    have har := h.below hbl
    by_cases hlt : i < xs.length
    · obtain ⟨b2, o2, rfl, hcn⟩ := har.at (by omega)
      have hcn1 := hcn i hlt
      have hx := h.lims i
      have hcell := hown.cell (j := q + i) (by rw [hlen.out]; omega)
      have hfro := hown.frozen (q + i)
      have hfro2 := hown.frozen (q + i + 1)
      have hcell2 := hown.cell (j := q + i + 1) (by rw [hlen.out]; omega)
      obtain ⟨x, hxd⟩ : ∃ x, x = lm xs i := ⟨_, rfl⟩
      obtain ⟨c, hcd⟩ : ∃ c, c = lm cs (q + i) := ⟨_, rfl⟩
      rw [← hxd] at hx hcn1
      rw [← hcd] at hcell hc
      obtain ⟨m, d, hm0, hm1, hdd, hdb, hdb2⟩ := shl_limb hx hp hc
      have hw1 : IntKind.u64.wrap ((x : Int) * 2 ^ p) = (m : Int) := by rw [hm0]; exact shl_wrap (hm0 ▸ hm1)
      have hor : bits BinOp.or IntKind.u32 (c : Int) ((m : Int) % 4294967296) = (d : Int) := by rw [hdd]; exact hdb
      have hmb : (m : Int) ≤ 18446744073709551615 := by omega
      have X := Lib.hid hxd
      have C := Lib.hid hcd
      have M := Lib.hid hm0
      have D := Lib.hid hdd
      have hc2 := Lib.hid hc
      clear hcn hxd hcd hm0 hdd hdb hc
      go_wp2_with fail
      have e1 : (m : Int) / 4294967296 = ((m / 4294967296 : Nat) : Int) := by omega
      have hk1 : q + i < cs.length := by rw [hlen.out]; omega
      have hk2 : q + i + 1 < (cs.set (q + i) d).length := by rw [List.length_set, hlen.out]; omega
      have hown2 := (hown.setCell (j := q + i) hk1 d).setCell (j := q + i + 1) hk2 (m / 4294967296)
      rw [← e1] at hown2
      go_roundw
      case rel => exact ⟨i + 1, (cs.set (q + i) d).set (q + i + 1) (m / 4294967296), by omega, by go_num, by show _ = _; rw [List.length_set, List.length_set]; exact hlen.out, lims_set (lims_set hlc _ _ hdb2) _ _ (by omega), hown2, (hbl.setCell (Nat.le_refl _) _).setCell (Nat.le_refl _) _, by
          rw [show q + (i + 1) = q + i + 1 by omega, lm_set _ _ _ _ hk2, if_pos rfl]
          exact shl_hi M.out hx, fun j hj => by rw [lm_set _ _ _ _ hk2, if_neg (by omega), lm_set _ _ _ _ hk1, if_neg (by omega)]; exact hzero.out j (by omega), by
          show _ = _
          rw [show q + (i + 1) = q + i + 1 by omega, lm_set _ _ _ _ hk2, if_pos rfl, vl, vl_set_ge _ _ _ _ (by omega), vl_set_ge _ _ _ _ (Nat.le_refl _), lm_set _ _ _ _ hk2, if_neg (by omega), lm_set _ _ _ _ hk1, if_pos rfl, vl, pw_succ, pw_add, ← X.out, D.out]
          have hv2 := hv.out
          rw [← C.out, pw_add] at hv2
          have hs := shl_step (x := x) (lo := m % 4294967296) (hi := m / 4294967296) hv2 (by rw [← M.out]; omega)
          rw [hs]; grind⟩
      case measure => simp [intOf]; omega
    · obtain rfl : i = xs.length := by omega
      have hval : val cs = val xs * 2 ^ k := by
        have h1 := hv.out
        rw [vl_all] at h1
        rw [← vl_all, hlen.out, show xs.length + q + 1 = q + xs.length + 1 by omega, vl, h1, K.out, Nat.pow_add, pw_two]
        grind
      have ht := trim_dig hlc
      rw [hval] at ht
      have T := Lib.hid ht
      have hfr := Fr.of_own hown hlc (Nat.le_refl _) (xs.length + q + 1) (by rw [hlen.out]; exact Nat.le_refl _) (by omega)
      have hln := Lib.hid hlen.out.symm
      clear har hgr hown0 hbel hlen hv ht hval
      go_wp2_with fail
      refine (significant_len _ _ _ _ hfr.rd _ hln.out).mono ?_; rintro e w' ⟨rfl, rfl⟩
      go_wp2_with fail
      go_ret
      have hfr2 := hfr.trim
      rw [T.out] at hfr2
      exact ⟨_, _, ret_len (congrArg List.length T.out), hfr2, hbl⟩

theorem val_drop_any (xs : List Nat) (k : Nat) : val (xs.drop k) = lm xs k + 4294967296 * val (xs.drop (k + 1)) := by
  rcases Nat.lt_or_ge k xs.length with h | h
  · exact val_drop xs k h
  · rw [val_drop_ge xs k h, val_drop_ge xs (k + 1) (by omega), lm_ge xs k h]
/-- one limb of a number that is shifted to the right -/
theorem shr_round {xs : List Nat} {q p i : Nat} (hx : Lims xs) (hp : p < 32) (hi : q + i < xs.length) :
    (val (xs.drop q) / 2 ^ p) % pw (i + 1) = (val (xs.drop q) / 2 ^ p) % pw i + (lm xs (q + i) + lm xs (q + i + 1) * 4294967296) / 2 ^ p % 4294967296 * pw i := by
  rw [mod_pw_succ]
  congr 2
  have h1 := vl_split (xs.drop q) i (by rw [List.length_drop]; omega)
  rw [List.drop_drop, val_drop_any xs (q + i), val_drop_any xs (q + i + 1)] at h1
  rw [Nat.mul_comm (lm xs (q + i + 1))]
  exact shr_limb h1 (vl_lt (lims_drop hx q) i) (two_pow_split (by omega))
theorem shr_end {xs : List Nat} {q p k : Nat} (hx : Lims xs) (hk : k = 32 * q + p) : (val (xs.drop q) / 2 ^ p) % pw (xs.length - q) = val xs / 2 ^ k := by
  have hN : val (xs.drop q) < pw (xs.length - q) := by
    have := val_lt (lims_drop hx q); rwa [List.length_drop] at this
  have h1 : val (xs.drop q) / 2 ^ p < pw (xs.length - q) := Nat.lt_of_le_of_lt (Nat.div_le_self _ _) hN
  rw [Nat.mod_eq_of_lt h1, hk, Nat.pow_add, ← pw_two, ← Nat.div_div_eq_div_mul]
  congr 1
  rcases Nat.le_total q xs.length with h | h
  · rw [vl_split xs q h, Nat.add_mul_div_left _ _ (pw_pos q), Nat.div_eq_of_lt (vl_lt hx q), Nat.zero_add]
  · rw [val_drop_ge xs q h, Nat.div_eq_of_lt (Nat.lt_of_lt_of_le (val_lt hx) (pw_mono h))]

set_option maxHeartbeats 1000000 in
set_option maxRecDepth 100000 in
theorem shiftRight_any (ao : Option Addr) (cap k q p : Nat) (xs : List Nat) (w : World) (hrd : Rd w ao cap xs) (hb : xs.length ≤ 549755813889) (hq : q ≤ 549755813000) (hp : p < 32) (hk : k = 32 * q + p) :
    Calls Tryz.prog 84 #[.slice ao xs.length cap, .int .i64 (k : Int)] w fun e w' => ∃ ao' cap', e = .returned (.slice ao' (dig (val xs / 2 ^ k)).length cap') ∧ Fr w.heap.size w' ao' cap' (dig (val xs / 2 ^ k)) ∧ Below w.heap.size w w' := by
  have hm := hrd.max
  have hle := hrd.le
  have hd1 : (k : Int) / 32 = (q : Int) := by omega
  have hd2 : (k : Int) % 32 = (p : Int) := by omega
  obtain ⟨i0, hi, hz0, hz1, hz2⟩ := info_parts infoU32
  have hkb : (k : Int) ≤ 17592186016032 := by omega
  obtain ⟨m, hm0⟩ : ∃ m, m = xs.length - q := ⟨_, rfl⟩
  have hmx : max ((xs.length : Int) - (q : Int)) 0 = (m : Int) := by omega
  have hmb : m ≤ 549755813889 := by omega
  have hmq : ∀ i, i < m → q + i < xs.length := fun i h => by omega
  have MQ := Lib.hid hmq
  have M0 := Lib.hid hm0
  have K := Lib.hid hk
  clear hk hm0 hmq
  by_cases hql : xs.length < q
  · go_enter Tryz.func84, Tryz.ntmps84
    go_wp2_with (at_make; refine wpList_make_full _ rfl _ _ 23 rfl w.heap.size 35 i0 (.int .u32 0) 1 Tryz.underlying23 hi hz0 hz1 _ _ _ _ m rfl rfl (by omega) (by omega) (by rw [hz2]; omega) (by unfold maxLen; omega) (Nat.le_refl _) ?_; intro w1 hown hgr)
    have hown0 := Own.made hown
    clear hown hi hz0 hz1 hz2
    have hbel : Below w.heap.size w w1 := (Below.refl _ _).grown hgr (Nat.le_refl _) (fun k hk => by cases hk)
    go_loopw [22] (fun s22 wr => ∃ (i : Nat) (cs : List Nat), i ≤ m ∧ s22 = .int .i64 i ∧ Hid (cs.length = m) ∧ Lims cs ∧ Own wr w.heap.size cs ∧ Below w.heap.size w wr ∧
        Hid (vl cs i = (val (xs.drop q) / 2 ^ p) % pw i)) (fun s22 _ => m - (intOf s22).toNat)
    case atStart => exact ⟨0, _, by omega, rfl, List.length_replicate .., lims_replicate _, hown0, hbel, by show _ = _; rw [vl, pw_zero, Nat.mod_one]⟩
    case round =>
      obtain ⟨i, cs, hi, rfl, hlen, hlc, hown, hbl, hv⟩ := hrel
      have har := hrd.below hbl
      by_cases hlt : i < m
      · exfalso; have := MQ.out i hlt; omega
      · obtain rfl : i = m := by omega
        have hval : val cs = val xs / 2 ^ k := by
          have h1 := hv.out
          rw [← hlen.out, vl_all, hlen.out, M0.out] at h1
          rw [h1]; exact shr_end hrd.lims K.out
        have ht := trim_dig hlc
        rw [hval] at ht
        have T := Lib.hid ht
        have hfr := Fr.of_own hown hlc (Nat.le_refl _) i (by rw [hlen.out]; exact Nat.le_refl _) (by omega)
        have hln := Lib.hid hlen.out.symm
        clear har hgr hown0 hbel hlen hv ht hval
        go_wp2_with fail
        refine (significant_len _ _ _ _ hfr.rd _ hln.out).mono ?_; rintro e w' ⟨rfl, rfl⟩
        go_wp2_with fail
        go_ret
        have hfr2 := hfr.trim
        rw [T.out] at hfr2
        exact ⟨_, _, ret_len (congrArg List.length T.out), hfr2, hbl⟩
  · go_enter Tryz.func84, Tryz.ntmps84
    go_wp2_with (at_make; refine wpList_make_full _ rfl _ _ 23 rfl w.heap.size 35 i0 (.int .u32 0) 1 Tryz.underlying23 hi hz0 hz1 _ _ _ _ m rfl rfl (by omega) (by omega) (by rw [hz2]; omega) (by unfold maxLen; omega) (Nat.le_refl _) ?_; intro w1 hown hgr)
    have hown0 := Own.made hown
    clear hown hi hz0 hz1 hz2
    have hbel : Below w.heap.size w w1 := (Below.refl _ _).grown hgr (Nat.le_refl _) (fun k hk => by cases hk)
    go_loopw [22] (fun s22 wr => ∃ (i : Nat) (cs : List Nat), i ≤ m ∧ s22 = .int .i64 i ∧ Hid (cs.length = m) ∧ Lims cs ∧ Own wr w.heap.size cs ∧ Below w.heap.size w wr ∧
        Hid (vl cs i = (val (xs.drop q) / 2 ^ p) % pw i)) (fun s22 _ => m - (intOf s22).toNat)
    case atStart => exact ⟨0, _, by omega, rfl, List.length_replicate .., lims_replicate _, hown0, hbel, by show _ = _; rw [vl, pw_zero, Nat.mod_one]⟩
    case round =>
      obtain ⟨i, cs, hi, rfl, hlen, hlc, hown, hbl, hv⟩ := hrel
      have har := hrd.below hbl
      by_cases hlt : i < m
      · have hqi := MQ.out i hlt
        obtain ⟨b2, o2, rfl, hcn⟩ := har.at (by omega)
        have hcn1 := hcn (q + i) hqi
        have hx := hrd.lims (q + i)
        have hy := hrd.lims (q + i + 1)
        have hcell := hown.cell (j := i) (by rw [hlen.out]; omega)
        have hfro := hown.frozen i
        obtain ⟨z, hz⟩ : ∃ z, z = lm xs (q + i) + lm xs (q + i + 1) * 4294967296 := ⟨_, rfl⟩
        have hor : bits BinOp.or IntKind.u64 (((lm xs (q + i + 1) : Nat) : Int) * 4294967296) ((lm xs (q + i) : Nat) : Int) = (z : Int) := by rw [hz]; exact or_join _ _ hy hx
        have hzb : (z : Int) ≤ 18446744073709551615 := by omega
        obtain ⟨s, hs⟩ : ∃ s, s = z / 2 ^ p := ⟨_, rfl⟩
        have hsi : (z : Int) / 2 ^ p = (s : Int) := by rw [hs]; simp
        have hsb : s ≤ z := by rw [hs]; exact Nat.div_le_self _ _
        have Z := Lib.hid hz
        have S := Lib.hid hs
        clear hz hs hcn
        go_wp2_with fail
        go_quiet ((go_at_call 65; exact Calls.quiet_of_same ((limb_any _ _ (q + i + 1) _ _ (by first | exact har.drewN _ | exact har) _ (by omega)).mono fun e w' h => ⟨h.1, h.2.symm⟩)))
        go_wp2_with fail
        have e1 : (s : Int) % 4294967296 = ((s % 4294967296 : Nat) : Int) := by omega
        have hk1 : i < cs.length := by rw [hlen.out]; omega
        have hown2 := (hown.drewN nq).setCell (j := i) hk1 (s % 4294967296)
        rw [← e1] at hown2
        go_roundw
        case rel => exact ⟨i + 1, _, by omega, by go_num, (List.length_set ..).trans hlen.out, lims_set hlc _ _ (by omega), hown2, (below_drewN hbl _).setCell (Nat.le_refl _) _, by
            show _ = _
            rw [vl, vl_set_ge _ _ _ _ (Nat.le_refl _), lm_set _ _ _ _ hk1, if_pos rfl, hv.out, shr_round hrd.lims hp hqi, ← Z.out, ← S.out]⟩
        case measure => simp [intOf]; omega
      · obtain rfl : i = m := by omega
        have hval : val cs = val xs / 2 ^ k := by
          have h1 := hv.out
          rw [← hlen.out, vl_all, hlen.out, M0.out] at h1
          rw [h1]; exact shr_end hrd.lims K.out
        have ht := trim_dig hlc
        rw [hval] at ht
        have T := Lib.hid ht
        have hfr := Fr.of_own hown hlc (Nat.le_refl _) i (by rw [hlen.out]; exact Nat.le_refl _) (by omega)
        have hln := Lib.hid hlen.out.symm
        clear har hgr hown0 hbel hlen hv ht hval
        go_wp2_with fail
        refine (significant_len _ _ _ _ hfr.rd _ hln.out).mono ?_; rintro e w' ⟨rfl, rfl⟩
        go_wp2_with fail
        go_ret
        have hfr2 := hfr.trim
        rw [T.out] at hfr2
        exact ⟨_, _, ret_len (congrArg List.length T.out), hfr2, hbl⟩
end Go.Proofs.YtdcnkebcpaelpaaGreatDoor
