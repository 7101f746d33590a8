import Derived.Test.YtdcnkebcpaelpaaNats2
import Derived.Test.YtdcnkebcpaelpaaMaths
import Derived.Deep.QuietTactic
import Derived.BigQuiet
import Derived.Test.YtdcnkebcpaelpaaNats
import Derived.Test.YtdcnkebcpaelpaaShelf
/- Contracts of package natural: shifts. -/
namespace Go.Proofs.Ytdcnkebcpaelpaa
open Go.RowKit

/-- one limb, shifted: its word, and what is or'ed to the carry -/
theorem shl_limb {x p c : Nat} (hx : x < 4294967296) (hp : p < 32) (hc : c < 2 ^ p) : ∃ m d, m = x * 2 ^ p ∧ m < 9223372036854775808 ∧ d = c + m % 4294967296 ∧ bits BinOp.or IntKind.u32 (c : Int) ((m : Int) % 4294967296) = ((c + m % 4294967296 : Nat) : Int) ∧ d < 4294967296 := by
  have h1 : 2 ^ p ≤ 2 ^ 31 := Nat.pow_le_pow_right (by omega) (by omega)
  rw [show (2 : Nat) ^ 31 = 2147483648 by rfl] at h1
  have h2 : x * 2 ^ p ≤ 4294967295 * 2147483648 := Nat.mul_le_mul (by omega) h1
  have hd : 2 ^ p ∣ 4294967296 := ⟨2 ^ (32 - p), (two_pow_split (by omega)).symm⟩
  have h3 : x * 2 ^ p % 4294967296 % 2 ^ p = 0 := by rw [Nat.mod_mod_of_dvd _ hd]; exact Nat.mul_mod_left _ _
  have h4 := nat_join p _ c h3 hc
  rw [Nat.or_comm] at h4
  have hcb : c < 4294967296 := by omega
  have h5 : c ||| x * 2 ^ p % 4294967296 < 2 ^ 32 := Nat.or_lt_two_pow (by omega) (by omega)
  rw [h4, show (2 : Nat) ^ 32 = 4294967296 by rfl] at h5
  refine ⟨_, _, rfl, by omega, rfl, ?_, by omega⟩
  have h6 := u32_or_nat c (x * 2 ^ p % 4294967296) hcb (by omega)
  rw [h4, Nat.add_comm] at h6
  rw [← h6]; congr 1
theorem shl_wrap {x p : Nat} (h : x * 2 ^ p < 9223372036854775808) : IntKind.u64.wrap ((x : Int) * 2 ^ p) = ((x * 2 ^ p : Nat) : Int) := by
  have e : ((x * 2 ^ p : Nat) : Int) = (x : Int) * 2 ^ p := by simp
  rw [← e, IntKind.wrap_u64]; omega
theorem shl_hi {x p m : Nat} (hm : m = x * 2 ^ p) (hx : x < 4294967296) : m / 4294967296 < 2 ^ p := by
  rw [hm, Nat.div_lt_iff_lt_mul (by omega), Nat.mul_comm]
  exact Nat.mul_lt_mul_of_pos_left hx (Nat.two_pow_pos p)

set_option maxHeartbeats 1000000 in
set_option maxRecDepth 100000 in
theorem shiftLeft_any (ao : Option Addr) (cap k q p : Nat) (xs : List Nat) (w : World) (h : Rd w ao cap xs) (hb : xs.length ≤ 549755813888) (hq : q ≤ 549755813000) (hp : p < 32) (hk : k = 32 * q + p) :
    Calls Try.prog 90 #[.slice ao xs.length cap, .int .i64 (k : Int)] w fun e w' => ∃ ao' cap', e = .returned (.slice ao' (dig (val xs * 2 ^ k)).length cap') ∧ Fr w.heap.size w' ao' cap' (dig (val xs * 2 ^ k)) ∧ Below w.heap.size w w' := by
  have hm := h.max
  have hle := h.le
  have hd1 : (k : Int) / 32 = (q : Int) := by omega
  have hd2 : (k : Int) % 32 = (p : Int) := by omega
  obtain ⟨i0, hi, hz0, hz1, hz2⟩ := info_parts infoU32
  have hkb : (k : Int) ≤ 17592186016032 := by omega
  have K := Lib.hid hk
  clear hk
  go_enter Try.func90, Try.ntmps90
  go_wp2_with (at_make; refine wpList_make_full _ rfl _ _ 38 rfl w.heap.size 84 i0 (.int .u32 0) 1 Try.underlying38 hi hz0 hz1 _ _ _ _ (xs.length + q + 1) rfl rfl (by omega) (by omega) (by rw [hz2]; omega) (by unfold maxLen; omega) (Nat.le_refl _) ?_; intro w1 hown hgr)
  have hown0 := Own.made hown
  clear hown hi hz0 hz1 hz2
  have hbel : Below w.heap.size w w1 := (Below.refl _ _).grown hgr (Nat.le_refl _) (fun k hk => by cases hk)
  go_loopw [22] (fun s22 wr => ∃ (i : Nat) (cs : List Nat), i ≤ xs.length ∧ s22 = .int .i64 i ∧ Hid (cs.length = xs.length + q + 1) ∧ Lims cs ∧ Own wr w.heap.size cs ∧ Below w.heap.size w wr ∧ lm cs (q + i) < 2 ^ p ∧ Hid (∀ j, q + i < j → lm cs j = 0) ∧
      Hid (vl cs (q + i) + lm cs (q + i) * pw (q + i) = vl xs i * pw q * 2 ^ p)) (fun s22 _ => xs.length - (intOf s22).toNat)
  case atStart => exact ⟨0, _, by omega, rfl, List.length_replicate .., lims_replicate _, hown0, hbel, by rw [lm_replicate]; exact Nat.two_pow_pos p, fun j _ => lm_replicate _ _, by show _ = _; rw [vl_replicate, lm_replicate, vl]; omega⟩
  case round =>
    obtain ⟨i, cs, hi, rfl, hlen, hlc, hown, hbl, hc, hzero, hv⟩ := hrel
    have har := h.below hbl
    by_cases hlt : i < xs.length
    · obtain ⟨b2, o2, rfl, hcn⟩ := har.at (by omega)
      have hcn1 := hcn i hlt
      have hx := h.lims i
      have hcell := hown.cell (j := q + i) (by rw [hlen.out]; omega)
      have hfro := hown.frozen (q + i)
      have hfro2 := hown.frozen (q + i + 1)
      have hcell2 := hown.cell (j := q + i + 1) (by rw [hlen.out]; omega)
      obtain ⟨x, hxd⟩ : ∃ x, x = lm xs i := ⟨_, rfl⟩
      obtain ⟨c, hcd⟩ : ∃ c, c = lm cs (q + i) := ⟨_, rfl⟩
      rw [← hxd] at hx hcn1
      rw [← hcd] at hcell hc
      obtain ⟨m, d, hm0, hm1, hdd, hdb, hdb2⟩ := shl_limb hx hp hc
      have hw1 : IntKind.u64.wrap ((x : Int) * 2 ^ p) = (m : Int) := by rw [hm0]; exact shl_wrap (hm0 ▸ hm1)
      have hor : bits BinOp.or IntKind.u32 (c : Int) ((m : Int) % 4294967296) = (d : Int) := by rw [hdd]; exact hdb
      have hmb : (m : Int) ≤ 18446744073709551615 := by omega
      have X := Lib.hid hxd
      have C := Lib.hid hcd
      have M := Lib.hid hm0
      have D := Lib.hid hdd
      have hc2 := Lib.hid hc
      clear hcn hxd hcd hm0 hdd hdb hc
      go_wp2_with fail
      have e1 : (m : Int) / 4294967296 = ((m / 4294967296 : Nat) : Int) := by omega
      have hk1 : q + i < cs.length := by rw [hlen.out]; omega
      have hk2 : q + i + 1 < (cs.set (q + i) d).length := by rw [List.length_set, hlen.out]; omega
      have hown2 := (hown.setCell (j := q + i) hk1 d).setCell (j := q + i + 1) hk2 (m / 4294967296)
      rw [← e1] at hown2
      go_roundw
      case rel => exact ⟨i + 1, (cs.set (q + i) d).set (q + i + 1) (m / 4294967296), by omega, by go_num, by show _ = _; rw [List.length_set, List.length_set]; exact hlen.out, lims_set (lims_set hlc _ _ hdb2) _ _ (by omega), hown2, (hbl.setCell (Nat.le_refl _) _).setCell (Nat.le_refl _) _, by
          rw [show q + (i + 1) = q + i + 1 by omega, lm_set _ _ _ _ hk2, if_pos rfl]
          exact shl_hi M.out hx, fun j hj => by rw [lm_set _ _ _ _ hk2, if_neg (by omega), lm_set _ _ _ _ hk1, if_neg (by omega)]; exact hzero.out j (by omega), by
          show _ = _
          rw [show q + (i + 1) = q + i + 1 by omega, lm_set _ _ _ _ hk2, if_pos rfl, vl, vl_set_ge _ _ _ _ (by omega), vl_set_ge _ _ _ _ (Nat.le_refl _), lm_set _ _ _ _ hk2, if_neg (by omega), lm_set _ _ _ _ hk1, if_pos rfl, vl, pw_succ, pw_add, ← X.out, D.out]
          have hv2 := hv.out
          rw [← C.out, pw_add] at hv2
          have hs := shl_step (x := x) (lo := m % 4294967296) (hi := m / 4294967296) hv2 (by rw [← M.out]; omega)
          rw [hs]; grind⟩
      case measure => simp [intOf]; omega
    · obtain rfl : i = xs.length := by omega
      have hval : val cs = val xs * 2 ^ k := by
        have h1 := hv.out
        rw [vl_all] at h1
        rw [← vl_all, hlen.out, show xs.length + q + 1 = q + xs.length + 1 by omega, vl, h1, K.out, Nat.pow_add, pw_two]
        grind
      have ht := trim_dig hlc
      rw [hval] at ht
      have T := Lib.hid ht
      have hfr := Fr.of_own hown hlc (Nat.le_refl _) (xs.length + q + 1) (by rw [hlen.out]; exact Nat.le_refl _) (by omega)
      have hln := Lib.hid hlen.out.symm
      clear har hgr hown0 hbel hlen hv ht hval
      go_wp2_with fail
      refine (significant_len _ _ _ _ hfr.rd _ hln.out).mono ?_; rintro e w' ⟨rfl, rfl⟩
      go_wp2_with fail
      go_ret
      have hfr2 := hfr.trim
      rw [T.out] at hfr2
      exact ⟨_, _, ret_len (congrArg List.length T.out), hfr2, hbl⟩

theorem val_drop_any (xs : List Nat) (k : Nat) : val (xs.drop k) = lm xs k + 4294967296 * val (xs.drop (k + 1)) := by
  rcases Nat.lt_or_ge k xs.length with h | h
  · exact val_drop xs k h
  · rw [val_drop_ge xs k h, val_drop_ge xs (k + 1) (by omega), lm_ge xs k h]
/-- one limb of a number that is shifted to the right -/
theorem shr_round {xs : List Nat} {q p i : Nat} (hx : Lims xs) (hp : p < 32) (hi : q + i < xs.length) :
    (val (xs.drop q) / 2 ^ p) % pw (i + 1) = (val (xs.drop q) / 2 ^ p) % pw i + (lm xs (q + i) + lm xs (q + i + 1) * 4294967296) / 2 ^ p % 4294967296 * pw i := by
  rw [mod_pw_succ]
  congr 2
  have h1 := vl_split (xs.drop q) i (by rw [List.length_drop]; omega)
  rw [List.drop_drop, val_drop_any xs (q + i), val_drop_any xs (q + i + 1)] at h1
  rw [Nat.mul_comm (lm xs (q + i + 1))]
  exact shr_limb h1 (vl_lt (lims_drop hx q) i) (two_pow_split (by omega))
theorem shr_end {xs : List Nat} {q p k : Nat} (hx : Lims xs) (hk : k = 32 * q + p) : (val (xs.drop q) / 2 ^ p) % pw (xs.length - q) = val xs / 2 ^ k := by
  have hN : val (xs.drop q) < pw (xs.length - q) := by
    have := val_lt (lims_drop hx q); rwa [List.length_drop] at this
  have h1 : val (xs.drop q) / 2 ^ p < pw (xs.length - q) := Nat.lt_of_le_of_lt (Nat.div_le_self _ _) hN
  rw [Nat.mod_eq_of_lt h1, hk, Nat.pow_add, ← pw_two, ← Nat.div_div_eq_div_mul]
  congr 1
  rcases Nat.le_total q xs.length with h | h
  · rw [vl_split xs q h, Nat.add_mul_div_left _ _ (pw_pos q), Nat.div_eq_of_lt (vl_lt hx q), Nat.zero_add]
  · rw [val_drop_ge xs q h, Nat.div_eq_of_lt (Nat.lt_of_lt_of_le (val_lt hx) (pw_mono h))]

set_option maxHeartbeats 1000000 in
set_option maxRecDepth 100000 in
theorem shiftRight_any (ao : Option Addr) (cap k q p : Nat) (xs : List Nat) (w : World) (hrd : Rd w ao cap xs) (hb : xs.length ≤ 549755813889) (hq : q ≤ 549755813000) (hp : p < 32) (hk : k = 32 * q + p) :
    Calls Try.prog 93 #[.slice ao xs.length cap, .int .i64 (k : Int)] w fun e w' => ∃ ao' cap', e = .returned (.slice ao' (dig (val xs / 2 ^ k)).length cap') ∧ Fr w.heap.size w' ao' cap' (dig (val xs / 2 ^ k)) ∧ Below w.heap.size w w' := by
  have hm := hrd.max
  have hle := hrd.le
  have hd1 : (k : Int) / 32 = (q : Int) := by omega
  have hd2 : (k : Int) % 32 = (p : Int) := by omega
  obtain ⟨i0, hi, hz0, hz1, hz2⟩ := info_parts infoU32
  have hkb : (k : Int) ≤ 17592186016032 := by omega
  obtain ⟨m, hm0⟩ : ∃ m, m = xs.length - q := ⟨_, rfl⟩
  have hmx : max ((xs.length : Int) - (q : Int)) 0 = (m : Int) := by omega
  have hmb : m ≤ 549755813889 := by omega
  have hmq : ∀ i, i < m → q + i < xs.length := fun i h => by omega
  have MQ := Lib.hid hmq
  have M0 := Lib.hid hm0
  have K := Lib.hid hk
  clear hk hm0 hmq
  by_cases hql : xs.length < q
  · go_enter Try.func93, Try.ntmps93
    go_wp2_with (at_make; refine wpList_make_full _ rfl _ _ 38 rfl w.heap.size 84 i0 (.int .u32 0) 1 Try.underlying38 hi hz0 hz1 _ _ _ _ m rfl rfl (by omega) (by omega) (by rw [hz2]; omega) (by unfold maxLen; omega) (Nat.le_refl _) ?_; intro w1 hown hgr)
    have hown0 := Own.made hown
    clear hown hi hz0 hz1 hz2
    have hbel : Below w.heap.size w w1 := (Below.refl _ _).grown hgr (Nat.le_refl _) (fun k hk => by cases hk)
    go_loopw [22] (fun s22 wr => ∃ (i : Nat) (cs : List Nat), i ≤ m ∧ s22 = .int .i64 i ∧ Hid (cs.length = m) ∧ Lims cs ∧ Own wr w.heap.size cs ∧ Below w.heap.size w wr ∧
        Hid (vl cs i = (val (xs.drop q) / 2 ^ p) % pw i)) (fun s22 _ => m - (intOf s22).toNat)
    case atStart => exact ⟨0, _, by omega, rfl, List.length_replicate .., lims_replicate _, hown0, hbel, by show _ = _; rw [vl, pw_zero, Nat.mod_one]⟩
    case round =>
      obtain ⟨i, cs, hi, rfl, hlen, hlc, hown, hbl, hv⟩ := hrel
      have har := hrd.below hbl
      by_cases hlt : i < m
      · exfalso; have := MQ.out i hlt; omega
      · obtain rfl : i = m := by omega
        have hval : val cs = val xs / 2 ^ k := by
          have h1 := hv.out
          rw [← hlen.out, vl_all, hlen.out, M0.out] at h1
          rw [h1]; exact shr_end hrd.lims K.out
        have ht := trim_dig hlc
        rw [hval] at ht
        have T := Lib.hid ht
        have hfr := Fr.of_own hown hlc (Nat.le_refl _) i (by rw [hlen.out]; exact Nat.le_refl _) (by omega)
        have hln := Lib.hid hlen.out.symm
        clear har hgr hown0 hbel hlen hv ht hval
        go_wp2_with fail
        refine (significant_len _ _ _ _ hfr.rd _ hln.out).mono ?_; rintro e w' ⟨rfl, rfl⟩
        go_wp2_with fail
        go_ret
        have hfr2 := hfr.trim
        rw [T.out] at hfr2
        exact ⟨_, _, ret_len (congrArg List.length T.out), hfr2, hbl⟩
  · go_enter Try.func93, Try.ntmps93
    go_wp2_with (at_make; refine wpList_make_full _ rfl _ _ 38 rfl w.heap.size 84 i0 (.int .u32 0) 1 Try.underlying38 hi hz0 hz1 _ _ _ _ m rfl rfl (by omega) (by omega) (by rw [hz2]; omega) (by unfold maxLen; omega) (Nat.le_refl _) ?_; intro w1 hown hgr)
    have hown0 := Own.made hown
    clear hown hi hz0 hz1 hz2
    have hbel : Below w.heap.size w w1 := (Below.refl _ _).grown hgr (Nat.le_refl _) (fun k hk => by cases hk)
    go_loopw [22] (fun s22 wr => ∃ (i : Nat) (cs : List Nat), i ≤ m ∧ s22 = .int .i64 i ∧ Hid (cs.length = m) ∧ Lims cs ∧ Own wr w.heap.size cs ∧ Below w.heap.size w wr ∧
        Hid (vl cs i = (val (xs.drop q) / 2 ^ p) % pw i)) (fun s22 _ => m - (intOf s22).toNat)
    case atStart => exact ⟨0, _, by omega, rfl, List.length_replicate .., lims_replicate _, hown0, hbel, by show _ = _; rw [vl, pw_zero, Nat.mod_one]⟩
    case round =>
      obtain ⟨i, cs, hi, rfl, hlen, hlc, hown, hbl, hv⟩ := hrel
      have har := hrd.below hbl
      by_cases hlt : i < m
      · have hqi := MQ.out i hlt
        obtain ⟨b2, o2, rfl, hcn⟩ := har.at (by omega)
        have hcn1 := hcn (q + i) hqi
        have hx := hrd.lims (q + i)
        have hy := hrd.lims (q + i + 1)
        have hcell := hown.cell (j := i) (by rw [hlen.out]; omega)
        have hfro := hown.frozen i
        obtain ⟨z, hz⟩ : ∃ z, z = lm xs (q + i) + lm xs (q + i + 1) * 4294967296 := ⟨_, rfl⟩
        have hor : bits BinOp.or IntKind.u64 (((lm xs (q + i + 1) : Nat) : Int) * 4294967296) ((lm xs (q + i) : Nat) : Int) = (z : Int) := by rw [hz]; exact or_join _ _ hy hx
        have hzb : (z : Int) ≤ 18446744073709551615 := by omega
        obtain ⟨s, hs⟩ : ∃ s, s = z / 2 ^ p := ⟨_, rfl⟩
        have hsi : (z : Int) / 2 ^ p = (s : Int) := by rw [hs]; simp
        have hsb : s ≤ z := by rw [hs]; exact Nat.div_le_self _ _
        have Z := Lib.hid hz
        have S := Lib.hid hs
        clear hz hs hcn
        go_wp2_with fail
        go_quiet ((go_at_call 85; exact Calls.quiet_of_same ((limb_any _ _ (q + i + 1) _ _ (by first | exact har.drewN _ | exact har) _ (by omega)).mono fun e w' h => ⟨h.1, h.2.symm⟩)))
        go_wp2_with fail
        have e1 : (s : Int) % 4294967296 = ((s % 4294967296 : Nat) : Int) := by omega
        have hk1 : i < cs.length := by rw [hlen.out]; omega
        have hown2 := (hown.drewN nq).setCell (j := i) hk1 (s % 4294967296)
        rw [← e1] at hown2
        go_roundw
        case rel => exact ⟨i + 1, _, by omega, by go_num, (List.length_set ..).trans hlen.out, lims_set hlc _ _ (by omega), hown2, (below_drewN hbl _).setCell (Nat.le_refl _) _, by
            show _ = _
            rw [vl, vl_set_ge _ _ _ _ (Nat.le_refl _), lm_set _ _ _ _ hk1, if_pos rfl, hv.out, shr_round hrd.lims hp hqi, ← Z.out, ← S.out]⟩
        case measure => simp [intOf]; omega
      · obtain rfl : i = m := by omega
        have hval : val cs = val xs / 2 ^ k := by
          have h1 := hv.out
          rw [← hlen.out, vl_all, hlen.out, M0.out] at h1
          rw [h1]; exact shr_end hrd.lims K.out
        have ht := trim_dig hlc
        rw [hval] at ht
        have T := Lib.hid ht
        have hfr := Fr.of_own hown hlc (Nat.le_refl _) i (by rw [hlen.out]; exact Nat.le_refl _) (by omega)
        have hln := Lib.hid hlen.out.symm
        clear har hgr hown0 hbel hlen hv ht hval
        go_wp2_with fail
        refine (significant_len _ _ _ _ hfr.rd _ hln.out).mono ?_; rintro e w' ⟨rfl, rfl⟩
        go_wp2_with fail
        go_ret
        have hfr2 := hfr.trim
        rw [T.out] at hfr2
        exact ⟨_, _, ret_len (congrArg List.length T.out), hfr2, hbl⟩
end Go.Proofs.Ytdcnkebcpaelpaa
/- Contracts of the reference's package, layer 1, and of the law's small helpers. -/
namespace Go.Proofs.Ytdcnkebcpaelpaa
open Go.RowKit

/-- append of a slice of limbs onto an empty one of the call's own -/
theorem wp_append_rd0 (w : World) {ops : Array Oper} {rest : List Oper} {o : Oper} {a : Act} {Q : Exit → Act → World → Prop} (hg : o.guard = none) (s x : Operand) (t : TypeId)
    (ho : o.op = .call { callee := .builtin .append, args := #[s, x], argTypes := #[t, t] }) (ht : Try.prog.underlying t = some (.slice 84)) (B : Nat) (v : Value) (hown : w.ownsRow B 84 1 v 0 (lits [])) (hB : B ≤ w.heap.size)
    (hs : a.eval s = v) (ao : Option Addr) (cap : Nat) (xs : List Nat) (m : Nat) (hx : a.eval x = .slice ao m cap) (hm : xs.length = m) (hr : Rd w ao cap xs) (hb : xs.length ≤ 1099511627776)
    (h : ∀ ao' cap' w', Fr B w' ao' cap' xs → Below B w w' → wpList Try.prog ops Q rest (a.put o.dst (.slice ao' m cap')) w') : wpList Try.prog ops Q (o :: rest) a w := by
  obtain ⟨i0, hi, hz0, hz1, hz2⟩ := info_parts infoU32
  subst hm
  cases ao with
  | none =>
    obtain ⟨rfl, rfl⟩ := hr.none_nil
    refine wpList_append_own_none hg s x t ho B 84 i0 1 ht hi v 0 [] hs hown hx ?_
    obtain ⟨ao', cap', rfl, hf, _⟩ := Fr.of_row hown lims_nil
    exact h ao' cap' w hf (Below.refl _ _)
  | some ad =>
    refine wpList_append_own w hg s x t ho B 84 i0 (.int .u32 0) 1 4 ht hi hz0 hz1 hz2 rfl (by omega) v 0 [] hs hown ad xs.length cap (lits xs) hx (by simp [lits_length]) ?_ ?_ (by unfold maxLen; omega) (by omega) hB ?_
    · intro j u hj
      rw [lits_get] at hj
      by_cases hl : j < xs.length
      · rw [if_pos hl] at hj
        cases hj
        obtain ⟨b, o', e, hc⟩ := hr.at (by omega)
        cases e
        rw [Addr.add_lit]
        exact hc j hl
      · rw [if_neg hl] at hj; cases hj
    · intro u hu
      obtain ⟨_, _, rfl⟩ := List.mem_map.1 hu
      rfl
    · intro v' w' h1 h2 _
      simp only [Nat.zero_add, List.nil_append] at h1
      obtain ⟨ao', cap', rfl, hf, _⟩ := Fr.of_row h1 hr.lims
      exact h ao' cap' w' hf ((Below.refl _ _).grown h2 hB (fun k hk => (hown.lt k hk).1))

set_option maxHeartbeats 400000 in
theorem rsize_any (ao : Option Addr) (cap : Nat) (xs : List Nat) (w : World) (h : Rd w ao cap xs) :
    Calls Try.prog 58 #[.slice ao xs.length cap] w fun e w' => e = .returned (.int .i64 ((trim xs).length : Nat)) ∧ w = w' := by
  have hm := h.max
  have hle := h.le
  go_enter Try.func58, Try.ntmps58
  go_wp2
  go_loop [3] (fun s => ∃ k : Nat, k ≤ xs.length ∧ s = .int .i64 k ∧ Hid (sz xs k = sz xs xs.length)) (fun s => (intOf s).toNat)
  case atStart => exact ⟨xs.length, Nat.le_refl _, rfl, rfl⟩
  case round =>
    obtain ⟨k, hk, rfl, hs⟩ := hrel
    by_cases hk0 : 0 < k
    · obtain ⟨b, o, rfl, hc⟩ := h.at (by omega)
      have hci := hc (k - 1) (by omega)
      clear hc
      have hx := h.lims (k - 1)
      by_cases hz : lm xs (k - 1) = 0
      · have hd : (((lm xs (k - 1) : Nat) : Int) == 0) = true := by simp [hz]
        have hs2 : Hid (sz xs (k - 1) = sz xs xs.length) := (sz_step hk0 hz).trans hs.out
        clear hz
        go_wp2
        go_round
        case rel => exact ⟨k - 1, by omega, by go_num, hs2⟩
        case measure => simp [intOf]; omega
      · have hd : (((lm xs (k - 1) : Nat) : Int) == 0) = false := by simp [hz]
        have hs2 : Hid ((trim xs).length = k) := (trim_length xs).trans (hs.out.symm.trans (sz_stop hk0 hz))
        clear hz
        go_wp2
        go_ret
        exact ⟨ret_i64 (by rw [hs2.out]), rfl⟩
    · obtain rfl : k = 0 := by omega
      have hs2 : Hid ((trim xs).length = 0) := (trim_length xs).trans hs.out.symm
      go_wp2
      go_ret
      exact ⟨ret_i64 (by rw [hs2.out]; rfl), rfl⟩

set_option maxHeartbeats 400000 in
set_option maxRecDepth 100000 in
theorem rTrim_any (ao : Option Addr) (cap : Nat) (xs : List Nat) (w : World) (h : Rd w ao cap xs) (hb : xs.length ≤ 1099511627776) :
    Calls Try.prog 54 #[.slice ao xs.length cap] w fun e w' => ∃ ao' cap', e = .returned (.slice ao' (dig (val xs)).length cap') ∧ Fr w.heap.size w' ao' cap' (dig (val xs)) ∧ Below w.heap.size w w' := by
  have ht := Lib.hid (trim_dig h.lims)
  have hl := trim_length_le xs
  have hm := h.max
  have hle := h.le
  have hown : (w.alloc (.cells #[] 84)).ownsRow w.heap.size 84 1 (.slice (some ⟨w.heap.size, 0, none⟩) 0 0) 0 (lits []) := World.ownsRow_lit (size := 1) w #[] 0 (Nat.le_refl _) (by omega) rfl
  have hb0 : Below w.heap.size w (w.alloc (.cells #[] 84)) := (Below.refl _ _).alloc (Nat.le_refl _) _
  have h2 := h.alloc (.cells #[] 84)
  go_enter Try.func54, Try.ntmps54
  go_wp2_with fail
  refine (rsize_any _ _ _ _ h2).mono ?_; rintro e w' ⟨rfl, rfl⟩
  go_wp2_with (at_builtin; refine wp_append_rd0 _ rfl _ _ 38 rfl Try.underlying38 w.heap.size _ hown (by simp) rfl ao cap (trim xs) _ rfl rfl h2.trim (by omega) ?_; intro ao' cap' w1 hf hb1)
  go_ret
  rw [ht.out] at hf
  exact ⟨ao', cap', ret_len (congrArg List.length ht.out), hf, hb0.trans hb1⟩
theorem rTrim_len (ao : Option Addr) (cap : Nat) (xs : List Nat) (w : World) (h : Rd w ao cap xs) (hb : xs.length ≤ 1099511627776) (n : Nat) (hn : n = xs.length) :
    Calls Try.prog 54 #[.slice ao n cap] w fun e w' => ∃ ao' cap', e = .returned (.slice ao' (dig (val xs)).length cap') ∧ Fr w.heap.size w' ao' cap' (dig (val xs)) ∧ Below w.heap.size w w' := by
  subst hn; exact rTrim_any ao cap xs w h hb

set_option maxHeartbeats 400000 in
set_option maxRecDepth 100000 in
/-- two slices that read the same are the same -/
theorem Same_eq (ao bo : Option Addr) (ca cb : Nat) (xs : List Nat) (w : World) (ha : Rd w ao ca xs) (hb : Rd w bo cb xs) :
    Calls Try.prog 33 #[.slice ao xs.length ca, .slice bo xs.length cb] w fun e w' => e = .returned (.bool true) ∧ Below w.heap.size w w' := by
  have hm := ha.max
  have hle := ha.le
  go_enter Try.func33, Try.ntmps33
  go_wp2
  go_loopw [13] (fun s wr => ∃ i : Nat, i ≤ xs.length ∧ s = .int .i64 i ∧ Below w.heap.size w wr) (fun s _ => xs.length - (intOf s).toNat)
  case atStart => exact ⟨0, Nat.zero_le _, rfl, Below.refl _ _⟩
  case round =>
    obtain ⟨i, hi, rfl, hbl⟩ := hrel
    by_cases hlt : i < xs.length
    · obtain ⟨b, o, rfl, hc⟩ := (ha.below hbl).at (by omega)
      obtain ⟨b', o', rfl, hc'⟩ := (hb.below hbl).at (by omega)
      have h1 := hc i hlt
      have h2 := hc' i hlt
      have hx := ha.lims i
      clear hc hc'
      go_wp2_with fail
      go_quiet (fail)
      go_wp2
      go_roundw
      case rel => exact ⟨i + 1, by omega, by go_num, below_drewN hbl _⟩
      case measure => simp [intOf]; omega
    · go_wp2
      go_ret
      exact ⟨rfl, hbl⟩
end Go.Proofs.Ytdcnkebcpaelpaa
/- Contract of the reference's shifted. -/
namespace Go.Proofs.Ytdcnkebcpaelpaa
open Go.RowKit

/-- one limb, shifted and joined to the carry -/
theorem shd_limb {x s c : Nat} (hx : x < 4294967296) (hs : s < 32) (hc : c < 2 ^ s) : ∃ m, m = x * 2 ^ s + c ∧ m < 9223372036854775808 ∧ IntKind.u64.wrap ((x : Int) * 2 ^ s) = ((x * 2 ^ s : Nat) : Int) ∧ bits BinOp.or IntKind.u64 (c : Int) ((x * 2 ^ s : Nat) : Int) = (m : Int) ∧ m / 4294967296 < 2 ^ s ∧ c < 4294967296 := by
  have h1 : 2 ^ s ≤ 2 ^ 31 := Nat.pow_le_pow_right (by omega) (by omega)
  rw [show (2 : Nat) ^ 31 = 2147483648 by rfl] at h1
  have h2 : x * 2 ^ s ≤ 4294967295 * 2147483648 := Nat.mul_le_mul (by omega) h1
  have h3 : (x + 1) * 2 ^ s ≤ 4294967296 * 2 ^ s := Nat.mul_le_mul_right _ hx
  rw [Nat.succ_mul] at h3
  have h4 := nat_join s (x * 2 ^ s) c (Nat.mul_mod_left _ _) hc
  have h5 := u64_or_nat c (x * 2 ^ s) (by omega) (by omega)
  rw [Nat.or_comm, h4] at h5
  refine ⟨_, rfl, by omega, shl_wrap (by omega), h5, ?_, by omega⟩
  rw [Nat.div_lt_iff_lt_mul (by omega)]
  have h6 : 4294967296 * 2 ^ s = 2 ^ s * 4294967296 := Nat.mul_comm _ _
  omega

set_option maxHeartbeats 1000000 in
set_option maxRecDepth 100000 in
theorem shifted_any (ao : Option Addr) (cap n s : Nat) (xs : List Nat) (w : World) (h : Rd w ao cap xs) (hb : xs.length ≤ 549755813888) (hs : s < 32) (hn : n = xs.length) :
    Calls Try.prog 74 #[.slice ao n cap, .int .i64 (s : Int)] w fun e w' => ∃ cs : List Nat, e = .returned (.slice (some ⟨w.heap.size, 0, none⟩) (n + 1) (n + 1)) ∧ cs.length = n + 1 ∧ Lims cs ∧ val cs = val xs * 2 ^ s ∧ Own w' w.heap.size cs ∧ Below w.heap.size w w' := by
  subst hn
  have hm := h.max
  have hle := h.le
  obtain ⟨i0, hi, hz0, hz1, hz2⟩ := info_parts infoU32
  go_enter Try.func74, Try.ntmps74
  go_wp2_with (at_make; refine wpList_make_full _ rfl _ _ 38 rfl w.heap.size 84 i0 (.int .u32 0) 1 Try.underlying38 hi hz0 hz1 _ _ _ _ (xs.length + 1) rfl rfl (by omega) (by omega) (by rw [hz2]; omega) (by unfold maxLen; omega) (Nat.le_refl _) ?_; intro w1 hown hgr)
  have hown0 := Own.made hown
  clear hown hi hz0 hz1 hz2
  have hbel : Below w.heap.size w w1 := (Below.refl _ _).grown hgr (Nat.le_refl _) (fun k hk => by cases hk)
  go_loopw [6, 14] (fun s6 s14 wr => ∃ (i c : Nat) (cs : List Nat), i ≤ xs.length ∧ s6 = .int .u64 c ∧ s14 = .int .i64 i ∧ c < 2 ^ s ∧ Hid (cs.length = xs.length + 1) ∧ Lims cs ∧ Own wr w.heap.size cs ∧ Below w.heap.size w wr ∧
      Hid (vl cs i + c * pw i = vl xs i * 2 ^ s)) (fun _ s14 _ => xs.length - (intOf s14).toNat)
  case atStart => exact ⟨0, 0, _, by omega, rfl, rfl, Nat.two_pow_pos s, List.length_replicate .., lims_replicate _, hown0, hbel, by show _ = _; simp [vl]⟩
  case round =>
    obtain ⟨i, c, cs, hi, rfl, rfl, hc, hlen, hlc, hown, hbl, hv⟩ := hrel
    have har := h.below hbl
    by_cases hlt : i < xs.length
    · obtain ⟨b2, o2, rfl, hcn⟩ := har.at (by omega)
      have hcn1 := hcn i hlt
      have hx := h.lims i
      have hcell := hown.cell (j := i) (by rw [hlen.out]; omega)
      have hfro := hown.frozen i
      obtain ⟨x, hxd⟩ : ∃ x, x = lm xs i := ⟨_, rfl⟩
      rw [← hxd] at hx hcn1
      obtain ⟨m, hm0, hm1, hw1, hor, hm2, hc3⟩ := shd_limb hx hs hc
      have hand := and_mask m (by omega)
      obtain ⟨p, hp⟩ : ∃ p, p = x * 2 ^ s := ⟨_, rfl⟩
      rw [← hp] at hw1 hor
      have hmb : (m : Int) ≤ 18446744073709551615 := by omega
      have hpb : (p : Int) ≤ 18446744073709551615 := by omega
      have X := Lib.hid hxd
      have M := Lib.hid hm0
      have M2 := Lib.hid hm2
      clear hcn hxd hm0 hp hm2 hc
      go_wp2_with fail
      have e1 : (m : Int) / 4294967296 = ((m / 4294967296 : Nat) : Int) := by omega
      have hk1 : i < cs.length := by rw [hlen.out]; omega
      have hown2 := hown.setCell (j := i) hk1 (m % 4294967296)
      go_roundw
      case rel => exact ⟨i + 1, m / 4294967296, cs.set i (m % 4294967296), by omega, by go_num, by go_num, M2.out, by show _ = _; rw [List.length_set]; exact hlen.out, lims_set hlc _ _ (by omega), hown2, hbl.setCell (Nat.le_refl _) _, by
          show _ = _
          rw [vl, vl_set_ge _ _ _ _ (Nat.le_refl _), lm_set _ _ _ _ hk1, if_pos rfl, vl, pw_succ, ← X.out]
          have hv2 := hv.out
          have hmm : m % 4294967296 + 4294967296 * (m / 4294967296) = x * 2 ^ s + c := by rw [← M.out]; omega
          have hmp : (m % 4294967296 + 4294967296 * (m / 4294967296)) * pw i = (x * 2 ^ s + c) * pw i := by rw [hmm]
          rw [Nat.add_mul _ (x * pw i), ← hv2]
          grind⟩
      case measure => simp [intOf]; omega
    · obtain rfl : i = xs.length := by omega
      have hk1 : xs.length < cs.length := by rw [hlen.out]; omega
      have hcell := hown.cell (j := xs.length) hk1
      have hfro := hown.frozen xs.length
      have hc1 : 2 ^ s ≤ 2 ^ 31 := Nat.pow_le_pow_right (by omega) (by omega)
      rw [show (2 : Nat) ^ 31 = 2147483648 by rfl] at hc1
      have hc2 : c < 4294967296 := by omega
      have hown2 := hown.setCell (j := xs.length) hk1 c
      have hval : Hid (val (cs.set xs.length c) = val xs * 2 ^ s) := by
        show _ = _
        have h1 := hv.out
        rw [vl_all] at h1
        rw [← vl_all, List.length_set, hlen.out, vl, vl_set_ge _ _ _ _ (Nat.le_refl _), lm_set _ _ _ _ hk1, if_pos rfl, h1]
      clear hc1 hc hv
      go_wp2_with fail
      go_ret
      exact ⟨cs.set xs.length c, rfl, by rw [List.length_set]; exact hlen.out, lims_set hlc _ _ hc2, hval.out, hown2, hbl.setCell (Nat.le_refl _) _⟩
end Go.Proofs.Ytdcnkebcpaelpaa
/- Bits of both packages; the reference's FromUint, Uint and Compare. -/
namespace Go.Proofs.Ytdcnkebcpaelpaa
open Go.RowKit

theorem bitLen_bl (n : Nat) (h : n < 18446744073709551616) : Lib.bitLen n = bl n := by
  induction n using Nat.strongRecOn with
  | _ n ih =>
    by_cases h0 : n = 0
    · subst h0; rfl
    · rw [Lib.bitLen_half n h0 (by omega), bl_half h0, ih (n / 2) (by omega) (by omega)]; omega

theorem len32_any (x : Nat) (w : World) (h1 : x < 4294967296) : Calls Try.prog 78 #[.int .u32 (x : Int)] w fun e w' => e = .returned (.int .i64 ((bl x : Nat) : Int)) ∧ w = w' := by
  refine (Try.bits_Len32 x w (by omega) (by omega)).mono ?_
  rintro e w' ⟨rfl, rfl⟩
  rw [Int.toNat_natCast, bitLen_bl x (by omega)]
  exact ⟨rfl, rfl⟩

set_option maxHeartbeats 400000 in
theorem Bits_any (ao : Option Addr) (cap : Nat) (xs : List Nat) (w : World) (h : Rd w ao cap xs) (hb : xs.length ≤ 1099511627776) :
    Calls Try.prog 66 #[.slice ao xs.length cap] w fun e w' => e = .returned (.int .i64 ((bl (val xs) : Nat) : Int)) ∧ w = w' := by
  have hl := trim_length_le xs
  have hm := h.max
  have hle := h.le
  by_cases h0 : (trim xs).length = 0
  · have hz := Lib.hid (bl_val_zero h0)
    have hd : (((trim xs).length : Int) == 0) = true := beq_iff_eq.2 (by omega)
    have h0h := Lib.hid h0; clear h0
    go_enter Try.func66, Try.ntmps66
    go_wp2_with fail
    refine (significant_any _ _ _ _ h).mono ?_; rintro e w' ⟨rfl, rfl⟩
    go_wp2
    go_ret
    exact ⟨ret_i64 (by rw [hz.out]; rfl), rfl⟩
  · obtain ⟨b, o, rfl, hc⟩ := h.at (by omega)
    have hc1 := hc ((trim xs).length - 1) (by omega)
    have hx := h.lims ((trim xs).length - 1)
    obtain ⟨e1, hp⟩ := bl_trim h.lims (by omega)
    have e1h := Lib.hid e1
    have hd : (((trim xs).length : Int) == 0) = false := beq_eq_false_iff_ne.2 (by omega)
    clear hc e1
    have hbl : bl (lm xs ((trim xs).length - 1)) ≤ 32 := bl_le.2 (by omega)
    go_enter Try.func66, Try.ntmps66
    go_wp2_with fail
    refine (significant_any _ _ _ _ h).mono ?_; rintro e w' ⟨rfl, rfl⟩
    go_wp2_with fail
    refine (len32_any _ _ hx).mono ?_; rintro e w' ⟨rfl, rfl⟩
    go_wp2
    go_ret
    refine ⟨ret_i64 (?_ : _ = _), rfl⟩
    rw [e1h.out]; omega

set_option maxHeartbeats 400000 in
theorem rFromUint_any (v : Int) (h0 : 0 ≤ v) (h1 : v ≤ 18446744073709551615) (w : World) :
    Calls Try.prog 55 #[.int .u64 v] w fun e w' => ∃ ao' cap', e = .returned (.slice ao' (dig v.toNat).length cap') ∧ Fr w.heap.size w' ao' cap' (dig v.toNat) ∧ Below w.heap.size w w' := by
  obtain ⟨n, rfl⟩ := Int.eq_ofNat_of_zero_le h0
  have hl : Lims [n % 4294967296, n / 4294967296] := lims_cons (by omega) (lims_cons (by omega) lims_nil)
  have hv : val [n % 4294967296, n / 4294967296] = n := by simp only [val]; omega
  have hown := Own.new w [n % 4294967296, n / 4294967296]
  have e : (lits [n % 4294967296, n / 4294967296]).toArray = #[.int .u32 ((n : Int) % 4294967296), .int .u32 ((n : Int) / 4294967296)] := by simp [lits]
  rw [e] at hown; clear e
  have hfr := Fr.of_own (B := w.heap.size) hown hl (Nat.le_refl _) 2 (by simp) (by omega)
  have hrd := hfr.rd
  have hvh := Lib.hid hv; clear hv
  have hand : bits BinOp.and IntKind.u64 (n : Int) 4294967295 = (n : Int) % 4294967296 := by rw [and_mask n (by omega)]; omega
  rw [Int.toNat_natCast]
  have hb0 : Below w.heap.size w (w.alloc (.cells #[.int .u32 ((n : Int) % 4294967296), .int .u32 ((n : Int) / 4294967296)] 84)) := (Below.refl _ _).alloc (Nat.le_refl _) _
  go_enter Try.func55, Try.ntmps55
  go_wp2_with fail
  refine (rTrim_len _ _ _ _ hrd (by simp) _ rfl).mono ?_
  rintro e w' ⟨ao', cap', rfl, hf, hb⟩
  go_wp2_with fail
  go_ret
  rw [hvh.out] at hf ⊢
  exact ⟨ao', cap', rfl, hf.mono (by simp), hb0.trans (hb.mono (by simp))⟩
end Go.Proofs.Ytdcnkebcpaelpaa
/- Divide where the divisor is 0, has one limb, or is longer. -/
namespace Go.Proofs.Ytdcnkebcpaelpaa
open Go.RowKit

theorem ret_div {a b : Option Addr} {n m k l c d : Nat} {p q : Bool} (h1 : n = m) (h2 : k = l) (h3 : p = q) :
    Ending.returned (.tuple #[.slice a n c, .slice b k d, .bool p]) = .returned (.tuple #[.slice a m c, .slice b l d, .bool q]) := by rw [h1, h2, h3]

theorem trim_nil_val {xs : List Nat} (e : (trim xs).length = 0) : val xs = 0 := by
  rw [← val_trim, List.eq_nil_of_length_eq_zero e]; rfl
theorem trim_one_val {xs : List Nat} (e : (trim xs).length = 1) : val xs = lm xs 0 ∧ 0 < lm xs 0 := by
  have h1 : val xs = vl (trim xs) 1 := by rw [← val_trim]; exact (vl_ge _ _ (by omega)).symm
  have h2 : vl (trim xs) 1 = lm xs 0 := by rw [vl, vl, lm_trim, pw_zero]; omega
  have h3 := canon_trim xs
  rcases h3 with h3 | h3
  · rw [h3] at e; simp at e
  · rw [e, lm_trim] at h3
    have h4 : lm xs 0 ≠ 0 := h3
    exact ⟨h1.trans h2, by omega⟩
theorem trim_short {xs ys : List Nat} (hx : Lims xs) (hy : Lims ys) (h : (trim xs).length < (trim ys).length) : val xs < val ys := by
  rw [trim_dig hx, trim_dig hy] at h
  rcases Nat.lt_or_ge (val xs) (val ys) with k | k
  · exact k
  · have := dig_mono k; omega

/-- what Divide gives -/
def DivPost (N M : Nat) (w : World) (e : Ending) (w' : World) : Prop :=
  ∃ qo qc ro rc, e = .returned (.tuple #[.slice qo (dig (N / M)).length qc, .slice ro (dig (N % M)).length rc, .bool true]) ∧ Fr w.heap.size w' qo qc (dig (N / M)) ∧ Fr w.heap.size w' ro rc (dig (N % M)) ∧ Below w.heap.size w w'

set_option maxHeartbeats 1000000 in
set_option maxRecDepth 100000 in
theorem Divide_zero (ao bo : Option Addr) (ca cb : Nat) (xs ys : List Nat) (w : World) (ha : Rd w ao ca xs) (hb : Rd w bo cb ys) (h0 : val ys = 0) :
    Calls Try.prog 68 #[.slice ao xs.length ca, .slice bo ys.length cb] w fun e w' => e = .returned (.tuple #[.slice none 0 0, .slice none 0 0, .bool false]) ∧ w = w' := by
  have hz := Lib.hid ((congrArg List.length (trim_dig hb.lims)).trans (by rw [h0]; rfl : _ = 0))
  clear h0
  go_enter Try.func68, Try.ntmps68
  go_wp2_with fail
  refine (significant_any _ _ _ _ ha).mono ?_; rintro e w' ⟨rfl, rfl⟩
  go_wp2_with fail
  refine (significant_any _ _ _ _ hb).mono ?_; rintro e w' ⟨rfl, rfl⟩
  rw [hz.out]
  go_wp2
  go_ret3
  exact ⟨rfl, rfl⟩

set_option maxHeartbeats 1000000 in
set_option maxRecDepth 100000 in
theorem Divide_less (ao bo : Option Addr) (ca cb : Nat) (xs ys : List Nat) (w : World) (ha : Rd w ao ca xs) (hb : Rd w bo cb ys) (hlt : (trim xs).length < (trim ys).length) (hx : xs.length ≤ 1099511627776) :
    Calls Try.prog 68 #[.slice ao xs.length ca, .slice bo ys.length cb] w (DivPost (val xs) (val ys) w) := by
  have hv := trim_short ha.lims hb.lims hlt
  have e1 := Lib.hid (Nat.div_eq_of_lt hv)
  have e2 := Lib.hid (Nat.mod_eq_of_lt hv)
  have hl := trim_length_le xs
  have hl2 := trim_length_le ys
  have hm := hb.max
  have hle := hb.le
  have hd : (((trim ys).length : Int) == 0) = false := beq_eq_false_iff_ne.2 (by omega)
  go_enter Try.func68, Try.ntmps68
  go_wp2_with fail
  refine (significant_any _ _ _ _ ha).mono ?_; rintro e w' ⟨rfl, rfl⟩
  go_wp2_with fail
  refine (significant_any _ _ _ _ hb).mono ?_; rintro e w' ⟨rfl, rfl⟩
  go_wp2_with fail
  refine (Trim_any _ _ _ _ ha.trim (by omega)).mono ?_
  rintro e w' ⟨ro, rc, rfl, hf, hbl⟩
  rw [val_trim] at hf
  go_wp2_with fail
  go_ret3
  refine ⟨none, 0, ro, rc, ret_div (by rw [e1.out]; rfl) (by rw [val_trim, e2.out]) rfl, by rw [e1.out]; exact Fr.nil _ _, by rw [e2.out]; exact hf, hbl⟩

set_option maxHeartbeats 1000000 in
set_option maxRecDepth 100000 in
theorem Divide_one (ao bo : Option Addr) (ca cb : Nat) (xs ys : List Nat) (w : World) (ha : Rd w ao ca xs) (hb : Rd w bo cb ys) (h1 : (trim ys).length = 1) (hle : 1 ≤ (trim xs).length) (hx : xs.length ≤ 1099511627776) :
    Calls Try.prog 68 #[.slice ao xs.length ca, .slice bo ys.length cb] w (DivPost (val xs) (val ys) w) := by
  have hl := trim_length_le xs
  have hl2 := trim_length_le ys
  have hdl := dig_length_val ha.lims
  have hv := trim_one_val h1
  have hyb := hb.lims 0
  obtain ⟨b, o, rfl, hc⟩ := hb.at (by omega)
  have hc0 := hc 0 (by omega)
  rw [Nat.add_zero] at hc0
  obtain ⟨d, hd⟩ : ∃ d, d = val ys := ⟨_, rfl⟩
  rw [← hv.1, ← hd] at hc0
  have hd0 : 0 < d := by omega
  have hd1 : d < 4294967296 := by omega
  have hdh := Lib.hid hd
  have h1h := Lib.hid h1
  rw [← hd]
  clear hc hv hd
  have hm := ha.max
  have hla := ha.le
  go_enter Try.func68, Try.ntmps68
  go_wp2_with fail
  refine (significant_any _ _ _ _ ha).mono ?_; rintro e w' ⟨rfl, rfl⟩
  go_wp2_with fail
  refine (significant_any _ _ _ _ hb).mono ?_; rintro e w' ⟨rfl, rfl⟩
  rw [h1h.out]
  clear h1
  go_wp2_with fail
  refine (Trim_any _ _ _ _ ha.trim (by omega)).mono ?_
  rintro e w1 ⟨qo, qc, rfl, hf, hbl⟩
  have hc1 := (hbl.cell (p := ⟨b, o, none⟩) (World.block_lt_of_cell? w _ hc0)).trans hc0
  have hs1 := hbl.size
  have evx := Lib.hid (val_trim xs)
  rw [evx.out] at hf ⊢
  go_wp2_with fail
  refine (divideInPlace_any w.heap.size qo qc d _ w1 hf hd0 hd1 (by omega) hs1).mono ?_
  rintro e w2 ⟨zs, rfl, k1, k2, k3, k4, k5, k6⟩
  have K1 := Lib.hid k1
  have K2 := Lib.hid k2
  clear k1 k2
  have hs2 := k5.size
  have hr0 : 0 ≤ ((val (dig (val xs)) % d : Nat) : Int) := by omega
  have hr1 : val (dig (val xs)) % d < d := Nat.mod_lt _ hd0
  go_wp2_with fail
  refine (significant_len _ _ _ _ k3.rd _ K1.out.symm).mono ?_; rintro e w' ⟨rfl, rfl⟩
  go_wp2_with fail
  refine (FromUint_any _ (by omega) (by omega) _).mono ?_
  rintro e w3 ⟨ro, rc, rfl, hf3, hb3⟩
  go_wp2_with fail
  go_ret3
  have q1 : trim zs = dig (val xs / d) := by rw [trim_dig k3.lims, K2.out, val_dig]
  have q2 : (((val (dig (val xs)) : Nat) : Int) % (d : Int)).toNat = val xs % d := by rw [← Int.natCast_emod, Int.toNat_natCast, val_dig]
  have f1 := (k3.below hb3).trim
  rw [q1] at f1
  rw [q2] at hf3
  exact ⟨qo, qc, ro, rc, ret_div (by rw [q1]) (by rw [q2]) rfl, f1, hf3.mono (by omega), (hbl.trans k5).trans (hb3.mono (by omega))⟩
end Go.Proofs.Ytdcnkebcpaelpaa
