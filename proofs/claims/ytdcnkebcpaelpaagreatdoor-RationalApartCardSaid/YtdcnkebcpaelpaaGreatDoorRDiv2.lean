import Derived.Test.YtdcnkebcpaelpaaGreatDoorRDiv1
import Derived.Test.YtdcnkebcpaelpaaGreatDoorRef2
import Derived.Test.YtdcnkebcpaelpaaGreatDoorRef3
import Derived.Test.YtdcnkebcpaelpaaGreatDoorDiv3
import Derived.Deep.LoopGhost
import Derived.BigRegion
/- Contract of the reference's Divide, where the divisor has two limbs or more. -/
namespace Go.Proofs.YtdcnkebcpaelpaaGreatDoor
open Go.RowKit

theorem take_val {cs : List Nat} {n : Nat} (hl : cs.length = n + 1) (h : val cs < pw n) : val (cs.take n) = val cs := by
  have e := vl_split cs n (by omega)
  rw [val_take cs n (by omega)]
  rcases Nat.eq_zero_or_pos (val (cs.drop n)) with z | z
  · rw [z] at e; omega
  · have : pw n * 1 ≤ pw n * val (cs.drop n) := Nat.mul_le_mul_left _ z
    omega
theorem vs_two (cs : List Nat) (o k : Nat) : vs cs o (k + 3) = vs cs o (k + 1) + (lm cs (o + (k + 1)) + lm cs (o + (k + 2)) * 4294967296) * pw (k + 1) := by
  rw [vs, vs, pw_succ (k + 1)]; grind
theorem Own.setFar {w : World} {b g : Nat} {cs : List Nat} (h : Own w g cs) (hne : g ≠ b) (j : Nat) (v : Value) : Own (w.setCell ⟨b, j, none⟩ v) g cs := h.block (Below.heap_setCell _ _ _ _ hne)
theorem back_top {V c P F D x d q : Nat} (h1 : V + c * P = F + D) (h2 : d + 4294967296 * q = c + x) : V + d * P + q * (P * 4294967296) = F + x * P + D := by
  have h3 : (d + 4294967296 * q) * P = (c + x) * P := by rw [h2]
  grind
theorem vl_one (cs : List Nat) (k : Nat) : vl cs (k + 2) = vl cs (k + 1) + lm cs (k + 1) * pw (k + 1) := rfl
/-- the guess and the quotient's digit -/
theorem rguess_fits {U D q g V1 V2 top high P : Nat} (hu : U = V1 + top * P) (hV1 : V1 < P) (hd : D = V2 + high * P) (hh : 0 < high) (hUD : U < D * 4294967296) (hD : 0 < D) (hq : q = U / D) (hg : g = min (top / high) 4294967295) : q ≤ g ∧ U < (q + 1) * D ∧ g < 4294967296 := by
  have h0 : q * D ≤ U := by rw [hq]; exact Nat.div_mul_le_self _ _
  have h1 : U < (q + 1) * D := by have := Nat.lt_succ_self (U / D); rw [hq]; rwa [Nat.div_lt_iff_lt_mul hD] at this
  have h2 := rguess_ge (top := top) (P := P) hh h0 (by rw [hu, Nat.succ_mul]; omega) (by omega) hUD
  exact ⟨by omega, h1, by omega⟩

set_option maxHeartbeats 20000000 in
set_option maxRecDepth 100000 in
theorem rDivide_long (ao bo : Option Addr) (ca cb : Nat) (xs ys : List Nat) (w : World) (ha : Rd w ao ca xs) (hb : Rd w bo cb ys) (h2 : 2 ≤ (trim ys).length) (hle : val ys ≤ val xs) (hx : xs.length ≤ 549755813888) :
    Calls Tryz.prog 52 #[.slice ao xs.length ca, .slice bo ys.length cb] w (DivPost (val xs) (val ys) w) := by
  have hma := ha.max
  have hla := ha.le
  have hmb := hb.max
  have hlb := hb.le
  have hlx := trim_length_le xs
  have hly := trim_length_le ys
  have hll : (trim ys).length ≤ (trim xs).length := by rw [trim_dig ha.lims, trim_dig hb.lims]; exact dig_mono hle
  have hct := canon_trim ys
  obtain ⟨us, hu⟩ : ∃ us, us = trim xs := ⟨_, rfl⟩
  obtain ⟨zs, hz⟩ : ∃ zs, zs = trim ys := ⟨_, rfl⟩
  have hau : Rd w ao ca us := by rw [hu]; exact ha.trim
  have hbz : Rd w bo cb zs := by rw [hz]; exact hb.trim
  have hvu : Hid (val us = val xs) := by show _ = _; rw [hu, val_trim]
  have hvz : Hid (val zs = val ys) := by show _ = _; rw [hz, val_trim]
  have hc0 : 0 ≤ cmpn (val xs) (val ys) := by
    rcases Nat.lt_or_eq_of_le hle with e | e
    · rw [cmpn_gt e]; omega
    · rw [cmpn_eq e.symm]; exact Int.le_refl 0
  rw [← hu] at hlx hll
  rw [← hz] at hly hll h2 hct
  obtain ⟨L, hL⟩ : ∃ L, L = us.length := ⟨_, rfl⟩
  obtain ⟨n, hn⟩ : ∃ n, n = zs.length := ⟨_, rfl⟩
  rw [← hL] at hlx hll
  rw [← hn] at hly hll h2
  have hsx : ∀ w' : World, Rd w' ao ca xs → Calls Tryz.prog 49 #[.slice ao xs.length ca] w' fun e w'' => e = .returned (.int .i64 ((L : Nat) : Int)) ∧ w' = w'' := fun w' h => by rw [hL, hu]; exact rsize_any ao ca xs w' h
  have hsy : ∀ w' : World, Rd w' bo cb ys → Calls Tryz.prog 49 #[.slice bo ys.length cb] w' fun e w'' => e = .returned (.int .i64 ((n : Nat) : Int)) ∧ w' = w'' := fun w' h => by rw [hn, hz]; exact rsize_any bo cb ys w' h
  have SX := Lib.hid hsx
  have SY := Lib.hid hsy
  have HL := Lib.hid hL
  have HN := Lib.hid hn
  have HLE := Lib.hid hle
  obtain ⟨k, hk⟩ : ∃ k, zs.length = k + 2 := ⟨zs.length - 2, by omega⟩
  have htop : 0 < lm zs (n - 1) := by
    rcases hct with e | e
    · rw [e] at hk; simp at hk
    · rw [hn]; exact Nat.pos_of_ne_zero e
  have htk : 0 < lm zs (k + 1) := by have := htop; rwa [show n - 1 = k + 1 by omega] at this
  have HK := Lib.hid (show n = k + 2 by omega)
  obtain ⟨b2, o2, rfl, hcb⟩ := hbz.at (by omega)
  have hct1 := hcb (n - 1) (by omega)
  have htb := hbz.lims (n - 1)
  obtain ⟨t, ht⟩ : ∃ t, t = lm zs (n - 1) := ⟨_, rfl⟩
  rw [← ht] at hct1 htb htop
  have HT := Lib.hid (show t = lm zs (k + 1) by rw [ht]; congr 1; omega)
  have HTK := Lib.hid htk
  have hbt0 := bl_pos htop
  have hbt1 : bl t ≤ 32 := bl_le.2 (by omega)
  have HKZ := Lib.hid hk
  obtain ⟨m, hm⟩ : ∃ m, L + 1 = m + n := ⟨L + 1 - n, by omega⟩
  have hmi : (L : Int) + 1 - (n : Int) = (m : Int) := by omega
  have hmL : (m : Int) ≤ (L : Int) := by omega
  have hm1 : 1 ≤ (m : Int) := by omega
  have HM := Lib.hid hm
  have hLb : (L : Int) ≤ 549755813888 := by omega
  have hnL : (n : Int) ≤ (L : Int) := by omega
  have hn2 : 2 ≤ (n : Int) := by omega
  have hd0 : ((n : Int) == 0) = false := beq_eq_false_iff_ne.2 (by omega)
  have hd1 : ((n : Int) == 1) = false := beq_eq_false_iff_ne.2 (by omega)
  obtain ⟨i0, hi, hz0, hz1, hz2⟩ := info_parts infoU32
  have hnys : n ≤ ys.length := hly
  have hLxs : L ≤ xs.length := hlx
  have HH := Lib.hid (show 0 < lm zs (k + 1) from htk)
  clear hu hz hsx hsy hL hn hct hcb ht htk hk hm hle hll h2
  go_enter Tryz.func52, Tryz.ntmps52
  go_wp2_with fail
  refine (SY.out _ hb).mono ?_; rintro e w' ⟨rfl, rfl⟩
  go_wp2_with fail
  refine (rCompare_any _ _ _ _ _ _ _ ha hb).mono ?_; rintro e w0 ⟨rfl, hb0⟩
  have hs0 := hb0.size
  have hct0 : w0.cell? ⟨b2, o2 + (n - 1), none⟩ = some (.int .u32 (t : Int)) := by
    rw [hb0.cell (p := ⟨b2, o2 + (n - 1), none⟩) (World.block_lt_of_cell? w _ hct1)]; exact hct1
  clear hct1
  go_wp2_with fail
  go_loop [10] (fun s10 => ∃ s : Nat, s10 = .int .i64 s ∧ s ≤ 32 ∧ Hid (s + bl t ≤ 32)) (fun s10 => 33 - (intOf s10).toNat)
  case atStart => exact ⟨0, rfl, by omega, by show _ ≤ _; omega⟩
  case round =>
    obtain ⟨s, rfl, hs32, hsb⟩ := hrel
    have htest := rshift_test htop hsb.out
    have hlt32 : s < 33 := by omega
    have eI : (t : Int) * 2 ^ s % 4294967296 / 2147483648 = ((t * 2 ^ s % 4294967296 / 2147483648 : Nat) : Int) := by simp
    by_cases hend : s + bl t < 32
    · have hdv : ((t : Int) * 2 ^ s % 4294967296 / 2147483648 == 0) = true := beq_iff_eq.2 (by rw [eI, htest.2 hend]; rfl)
      clear htest eI
      go_wp2_with fail
      go_round
      case rel => exact ⟨s + 1, by go_num, by omega, by show _ ≤ _; omega⟩
      case measure => simp [intOf]; omega
    · have hdv : ((t : Int) * 2 ^ s % 4294967296 / 2147483648 == 0) = false := beq_eq_false_iff_ne.2 (by rw [eI]; intro h; exact hend (htest.1 (Int.natCast_eq_zero.1 h)))
      have hsE := Lib.hid (show s + bl t = 32 by have := hsb.out; omega)
      have hs31 : s < 32 := by have := hsE.out; omega
      clear hend hsb htest eI hlt32
      have ha0 := ha.below hb0
      have hau0 := hau.below hb0
      have hbz0 := hbz.below hb0
      go_wp2_with fail
      refine (SX.out _ ha0).mono ?_; rintro e w' ⟨rfl, rfl⟩
      go_wp2_with fail
      refine (shifted_any ao ca L s us w0 hau0 (by have := HL.out; omega) hs31 HL.out).mono ?_; rintro e w1 ⟨cu, rfl, hul, hulim, huv, huown, hb1⟩
      obtain ⟨g1, hg1⟩ : ∃ g, g = w0.heap.size := ⟨_, rfl⟩
      rw [← hg1] at huown ⊢
      have hgw1 : w.heap.size ≤ g1 := by omega
      have HG1 := Lib.hid hg1
      clear hg1
      have hbz1 := hbz0.below hb1
      have hs1 := hb1.size
      have hg1lt := huown.lt
      go_wp2_with fail
      refine (shifted_any _ cb n s zs w1 hbz1 (by have := HN.out; omega) hs31 HN.out).mono ?_; rintro e w2 ⟨cv, rfl, hvl, hvlim, hvv, hvown, hb2⟩
      obtain ⟨g2, hg2⟩ : ∃ g, g = w1.heap.size := ⟨_, rfl⟩
      rw [← hg2] at hvown ⊢
      have h12 : g1 < g2 := by omega
      clear hg2
      have hs2 := hb2.size
      have hg2lt := hvown.lt
      replace huown := huown.below hb2 hg1lt
      have B2 : Below w.heap.size w w2 := (hb0.trans (hb1.mono hs0)).trans (hb2.mono (by omega))
      go_wp2_with (at_make; refine wpList_make_full _ rfl _ _ 23 rfl w2.heap.size 35 i0 (.int .u32 0) 1 Tryz.underlying23 hi hz0 hz1 _ _ _ _ m rfl rfl (by omega) (by omega) (by rw [hz2]; omega) (by unfold maxLen; omega) (Nat.le_refl _) ?_; intro w3 hown hgr)
      have hqown := Own.made hown
      have hb3 : Below w2.heap.size w2 w3 := (Below.refl _ _).grown hgr (Nat.le_refl _) (fun k hk => by cases hk)
      clear hown hi hz0 hz1 hz2 hgr
      obtain ⟨g3, hg3⟩ : ∃ g, g = w2.heap.size := ⟨_, rfl⟩
      rw [← hg3] at hqown ⊢
      have h23 : g2 < g3 := by omega
      have hgw3 : w.heap.size ≤ g3 := by omega
      have n31 : g3 ≠ g1 := by omega
      have n21 : g2 ≠ g1 := by omega
      have n13 : g1 ≠ g3 := by omega
      have n23 : g2 ≠ g3 := by omega
      clear hg3
      replace huown := huown.below hb3 (by omega)
      replace hvown := hvown.below hb3 (by omega)
      have B3 : Below w.heap.size w w3 := B2.trans (hb3.mono (by omega))
      obtain ⟨n1, n2', n3, n4⟩ := norm_len hbz.lims HKZ.out HTK.out (show s + bl (lm zs (k + 1)) = 32 by rw [← HT.out]; exact hsE.out)
      have hcv := take_val hvl (by rw [hvv, HK.out]; exact n3)
      obtain ⟨ds, hds⟩ : ∃ ds, ds = cv.take n := ⟨_, rfl⟩
      rw [← hds] at hcv
      have hvd : Hid (val ds = val zs * 2 ^ s) := by show _ = _; rw [hcv, hvv]
      have hld : Lims ds := by rw [hds]; exact lims_take hvlim _
      have hdl : Hid (ds.length = n) := by show _ = _; rw [hds, List.length_take]; omega
      replace hvown : Own w3 g2 ds := by rw [hds]; exact hvown.take n
      have hDtop : Hid (0 < lm ds (k + 1)) := by
        show _ < _
        rw [← lm_trim, trim_dig hld, hvd.out]; exact n2'
      have hDlt : Hid (val ds < pw n) := by show _ < _; rw [hvd.out, HK.out]; exact n3
      have hstart : Hid (val (cu.drop m) < val ds) := by
        show _ < _
        have e := vl_split cu m (by rw [hul]; have := HM.out; omega)
        rw [huv] at e
        have h1 : pw L ≤ val zs * pw m := by
          have : pw L = pw (k + 1) * pw m := by rw [← pw_add]; congr 1; have := HM.out; have := HK.out; omega
          rw [this]; exact Nat.mul_le_mul_right _ n4
        have h2 : val us * 2 ^ s < pw L * 2 ^ s := by rw [HL.out]; exact Nat.mul_lt_mul_of_pos_right (val_lt hau.lims) (Nat.two_pow_pos s)
        have h3 : pw L * 2 ^ s ≤ val zs * pw m * 2 ^ s := Nat.mul_le_mul_right _ h1
        have h4 : val zs * pw m * 2 ^ s = val ds * pw m := by rw [hvd.out]; grind
        have h5 : pw m * val (cu.drop m) < pw m * val ds := by rw [Nat.mul_comm (pw m) (val ds)]; omega
        exact Nat.lt_of_mul_lt_mul_left h5
      have huv0 : Hid (val cu = val us * 2 ^ s) := huv
      have hul0 : Hid (cu.length = L + 1) := hul
      clear n1 n2' n3 n4 hcv hds hvv hvl hvlim huv hul hb1 hb2 hb3 hbz1 hbz0 hau0 ha0 hs1 hs2 hg1lt hg2lt B2 hct0 hd0 hd1 hdv hc0 hbt0 hbt1
      go_wp2_with fail
      go_loopw [14] (fun s14 wr => ∃ (p : Nat) (z : Int) (cs qs : List Nat), z = (p : Int) - 1 ∧ p ≤ m ∧ s14 = .int .i64 z ∧ Hid (cs.length = L + 1) ∧ Hid (qs.length = m) ∧ Lims cs ∧ Lims qs ∧ Own wr g1 cs ∧ Own wr g3 qs ∧ Own wr g2 ds ∧ Below w.heap.size w wr ∧
          Hid (∀ j, j < p → lm qs j = 0) ∧ Hid (val qs * val ds + val cs = val us * 2 ^ s) ∧ Hid (val (cs.drop p) < val ds)) (fun s14 _ => (intOf s14 + 1).toNat)
      case atStart => exact ⟨m, _, cu, _, rfl, Nat.le_refl _, rfl, hul0.out, List.length_replicate .., hulim, lims_replicate _, huown, hqown, hvown, B3, fun j _ => lm_replicate _ _, by show _ = _; rw [val_replicate, Nat.zero_mul, Nat.zero_add]; exact huv0.out, hstart.out⟩
      case round =>
        obtain ⟨p0, z, cs, qs, hz, hp0, rfl, hlen, hlq, hlc, hlqs, hoc, hoq, hod, hbl, hzero, hv, hdrop⟩ := hrel
        clear huown hqown hvown B3 hstart huv0 hul0 hulim
        by_cases hpz : 0 < p0
        · obtain ⟨p, rfl⟩ : ∃ p, p0 = p + 1 := ⟨p0 - 1, by omega⟩
          obtain rfl : z = (p : Int) := by omega
          have hpL : p + n < L + 1 := by have := HM.out; omega
          obtain ⟨q1, q2, q3⟩ := div_next (cs := cs) (p := p) (by rw [hlen.out]; omega) hDlt.out hdrop.out (hlc p)
          rw [q2] at q1
          have Q1 := Lib.hid q1
          have Q3 := Lib.hid q3
          have hD0 : 0 < val ds := by have := hdrop.out; omega
          have eU : vs cs p (n + 1) = vs cs p (n - 1) + (lm cs (p + n - 1) + lm cs (p + n) * 4294967296) * pw (n - 1) := by
            have hk := HK.out
            rw [show n + 1 = k + 3 by omega, show n - 1 = k + 1 by omega, show p + n - 1 = p + (k + 1) by omega, show p + n = p + (k + 2) by omega]
            exact vs_two cs p k
          have eD : val ds = vl ds (n - 1) + lm ds (n - 1) * pw (n - 1) := by
            have hk := HK.out
            rw [← vl_all, hdl.out, show n = k + 2 by omega, show k + 2 - 1 = k + 1 by omega]; exact vl_one ds k
          have hV1 := vs_lt hlc p (n - 1)
          have hhi : 0 < lm ds (n - 1) := by rw [show n - 1 = k + 1 by have := HK.out; omega]; exact hDtop.out
          have c2 := hoc.cell (j := p + n) (by rw [hlen.out]; omega)
          have c1 := hoc.cell (j := p + n - 1) (by rw [hlen.out]; omega)
          have c0 := hod.cell (j := n - 1) (by rw [hdl.out]; omega)
          have l2 := hlc (p + n)
          have l1 := hlc (p + n - 1)
          have l0 := hld (n - 1)
          obtain ⟨x2, hx2⟩ : ∃ x, x = lm cs (p + n) := ⟨_, rfl⟩
          obtain ⟨x1, hx1⟩ : ∃ x, x = lm cs (p + n - 1) := ⟨_, rfl⟩
          obtain ⟨hi, hhid⟩ : ∃ x, x = lm ds (n - 1) := ⟨_, rfl⟩
          rw [← hx2] at c2 l2 eU
          rw [← hx1] at c1 l1 eU
          rw [← hhid] at c0 l0 hhi eD
          have hor := or_join x2 x1 l2 l1
          obtain ⟨top, htp⟩ : ∃ x, x = x1 + x2 * 4294967296 := ⟨_, rfl⟩
          rw [← htp] at hor eU
          have htb2 : (top : Int) ≤ 18446744073709551615 := by omega
          have hhz : ((hi : Int) == 0) = false := beq_eq_false_iff_ne.2 (by omega)
          obtain ⟨D0, hD0'⟩ : ∃ x, x = top / hi := ⟨_, rfl⟩
          have hwD : IntKind.u64.wrap ((top : Int) / (hi : Int)) = (D0 : Int) := by rw [hD0', ← Int.natCast_ediv, IntKind.wrap_u64]; have := Nat.div_le_self top hi; omega
          obtain ⟨g, hg⟩ : ∃ g, g = min D0 4294967295 := ⟨_, rfl⟩
          have hmin : min (D0 : Int) 4294967295 = (g : Int) := by omega
          obtain ⟨qd, hqd⟩ : ∃ qd, qd = vs cs p (n + 1) / val ds := ⟨_, rfl⟩
          obtain ⟨f1, f2, f3⟩ := rguess_fits (g := g) eU hV1 eD hhi q1 hD0 hqd (by rw [hg, hD0'])
          have F1 := Lib.hid f1
          have F2 := Lib.hid f2
          have X2 := Lib.hid hx2
          have hgb : (g : Int) ≤ 4294967295 := by omega
          have i1 : IntKind.i64.wrap ((p : Int) + (n : Int)) = (p : Int) + (n : Int) := IntWalk.i64_in _ (by omega)
          have i2 : ((p : Int) + (n : Int)).toNat = p + n := by omega
          have i3 : ((p : Int) + (n : Int) - 1).toNat = p + n - 1 := by omega
          have i4 : 0 ≤ (p : Int) + (n : Int) := by omega
          have i5 : (p : Int) + (n : Int) < (L : Int) + 1 := by omega
          have i6 : 0 ≤ (p : Int) + (n : Int) - 1 := by omega
          have i7 : (p : Int) + (n : Int) - 1 < (L : Int) + 1 := by omega
          clear q1 q2 q3 hx2 hx1 hhid htp hD0' hg hqd eU eD hV1 f1 f2 f3 hz
          go_wp2_with fail
          go_quiet (fail)
          go_wp2_with fail
          replace hoc := hoc.drewN nq
          replace hoq := hoq.drewN nq
          replace hod := hod.drewN nq
          replace hbl := below_drewN hbl nq
          obtain ⟨wo, hwo⟩ : ∃ wo : World, wo = wr.drewN nq := ⟨_, rfl⟩
          rw [← hwo] at hoc hoq hod hbl ⊢
          clear hwo c2 c1 c0 hor hwD hmin htb2 hhz
          go_loopw [16, 17, 116] (fun s16 s17 s116 wi => ∃ (i c b : Nat) (es : List Nat), i ≤ n ∧ s16 = .int .u64 c ∧ s17 = .int .u64 b ∧ s116 = .int .i64 i ∧ c < 4294967296 ∧ b ≤ 1 ∧ Hid (es.length = L + 1) ∧ Lims es ∧ Own wi g1 es ∧ Own wi g3 qs ∧ Own wi g2 ds ∧ Below w.heap.size w wi ∧
              Hid (∀ j, j < p ∨ p + i ≤ j → lm es j = lm cs j) ∧ Hid (vs es p i + g * vl ds i = vs cs p i + (b + c) * pw i)) (fun _ _ s116 _ => n - (intOf s116).toNat)
          case atStart => exact ⟨0, 0, 0, cs, by omega, rfl, rfl, rfl, by omega, by omega, hlen.out, hlc, hoc, hoq, hod, hbl, fun j _ => rfl, by show _ = _; simp [vs, vl]⟩
          case round =>
            obtain ⟨i, c, b, es, hin, rfl, rfl, rfl, hc, hb1, hlen2, hle2, hoe, hoq2, hod2, hbl2, hlow, hv2⟩ := hrel
            clear hoc hoq hod hbl
            by_cases hlt : i < n
            · have hu1 := hoe.cell (j := p + i) (by rw [hlen2.out]; omega)
              have hu2 := hoe.frozen (p + i)
              have hv1 := hod2.cell (j := i) (by rw [hdl.out]; omega)
              have hxb := hle2 (p + i)
              have hyb := hld i
              obtain ⟨x, hxd⟩ : ∃ x, x = lm es (p + i) := ⟨_, rfl⟩
              obtain ⟨v, hvd2⟩ : ∃ v, v = lm ds i := ⟨_, rfl⟩
              rw [← hxd] at hu1 hxb
              rw [← hvd2] at hv1 hyb
              have hpb := mul_le_limb hyb (show g < 4294967296 by omega)
              obtain ⟨pr, hpr⟩ : ∃ pr, pr = v * g := ⟨_, rfl⟩
              rw [← hpr] at hpb
              obtain ⟨s2, hs2⟩ : ∃ s2, s2 = c + pr := ⟨_, rfl⟩
              obtain ⟨lo, hlo⟩ : ∃ lo, lo = s2 % 4294967296 := ⟨_, rfl⟩
              obtain ⟨d, hd⟩ : ∃ d, d = x + 4294967296 - lo - b := ⟨_, rfl⟩
              obtain ⟨t2, ht2⟩ : ∃ t2, t2 = d % 4294967296 := ⟨_, rfl⟩
              obtain ⟨b', hb'⟩ : ∃ b', b' = 1 - d / 4294967296 := ⟨_, rfl⟩
              have hlob : lo < 4294967296 := by omega
              obtain ⟨r1, r2, r3, r4, r5⟩ := rsub_limb hxb hlob hb1 hd ht2 hb'
              have hw1 : IntKind.u64.wrap ((g : Int) * (v : Int)) = (pr : Int) := by rw [Int.mul_comm, ← Int.natCast_mul, ← hpr, IntKind.wrap_u64]; omega
              have hw2 : IntKind.u64.wrap ((c : Int) + (pr : Int)) = (s2 : Int) := by rw [IntKind.wrap_u64]; omega
              have ha1 : bits BinOp.and IntKind.u64 (s2 : Int) 4294967295 = (lo : Int) := by rw [and_mask s2 (by omega), hlo]
              have ha2 : bits BinOp.and IntKind.u64 ((x : Int) + 4294967296 - (lo : Int) - (b : Int)) 4294967295 = (t2 : Int) := and_of (s := d) (by omega) (by omega) ht2
              have hs2b : (s2 : Int) ≤ 18446744073709551615 := by omega
              have ht2b : t2 < 4294967296 := by omega
              have j1 : IntKind.i64.wrap ((p : Int) + (i : Int)) = (p : Int) + (i : Int) := IntWalk.i64_in _ (by omega)
              have j2 : ((p : Int) + (i : Int)).toNat = p + i := by omega
              have j3 : 0 ≤ (p : Int) + (i : Int) := by omega
              have j4 : (p : Int) + (i : Int) < (L : Int) + 1 := by omega
              have hst : c + pr = lo + 4294967296 * (s2 / 4294967296) := by omega
              have hbI : (1 : Int) - ((x : Int) + 4294967296 - (lo : Int) - (b : Int)) / 4294967296 = (b' : Int) := by omega
              have hcb : s2 / 4294967296 < 4294967296 := by omega
              have HX := Lib.hid hxd
              have HV := Lib.hid hvd2
              have HP := Lib.hid hpr.symm
              have HST := Lib.hid hst
              have HBI := Lib.hid hbI
              have R1 := Lib.hid r1
              clear hxd hvd2 hpr hs2 hlo hd ht2 hb' hst hbI r1 r4
              go_wp2_with fail
              have hk1 : p + i < es.length := by rw [hlen2.out]; omega
              have hoe2 := hoe.setCell (j := p + i) hk1 t2
              go_roundw
              case rel => exact ⟨i + 1, s2 / 4294967296, b', es.set (p + i) t2, by omega, by go_num, congrArg (Value.int .u64) HBI.out, by go_num, hcb, r2, by show _ = _; rw [List.length_set]; exact hlen2.out, lims_set hle2 _ _ ht2b, hoe2, hoq2.block (Below.heap_setCell _ _ _ _ (fun e => n31 e)), hod2.block (Below.heap_setCell _ _ _ _ (fun e => n21 e)), hbl2.setCell hgw1 _,
                fun j hj => by rw [lm_set _ _ _ _ hk1, if_neg (by omega)]; exact hlow.out j (by omega), by
                show _ = _
                rw [vs, vs_set_ge _ _ _ _ _ (Nat.le_refl _), lm_set _ _ _ _ hk1, if_pos rfl, vl, vs, pw_succ, ← HV.out, ← hlow.out (p + i) (by omega), ← HX.out]
                exact sub_step _ _ _ _ _ _ _ _ _ _ _ _ _ _ hv2.out HP.out HST.out R1.out⟩
              case measure => simp [intOf]; omega
            · obtain rfl : i = n := by omega
              have hu1 := hoe.cell (j := p + i) (by rw [hlen2.out]; omega)
              have hu2 := hoe.frozen (p + i)
              have hxe := hlow.out (p + i) (by omega)
              rw [hxe, ← X2.out] at hu1
              obtain ⟨d2, hd2⟩ : ∃ d2, d2 = x2 + 8589934592 - c - b := ⟨_, rfl⟩
              obtain ⟨t3, ht3⟩ : ∃ t3, t3 = d2 % 4294967296 := ⟨_, rfl⟩
              have ha2 : bits BinOp.and IntKind.u64 ((x2 : Int) + 8589934592 - (c : Int) - (b : Int)) 4294967295 = (t3 : Int) := and_of (s := d2) (by omega) (by omega) ht3
              have ht3b : t3 < 4294967296 := by omega
              have hk1 : p + i < es.length := by rw [hlen2.out]; omega
              have hoe2 := hoe.setCell (j := p + i) hk1 t3
              have hvn := hv2.out
              rw [show vl ds i = val ds by rw [← hdl.out]; exact vl_all ds] at hvn
              obtain ⟨rt1, rt2⟩ := rtop (x := x2) hvn (by omega) l2
              have hUeq : vs cs p (i + 1) = vs cs p i + x2 * pw i := by rw [vs, ← X2.out]
              have hWeq : vs (es.set (p + i) t3) p (i + 1) = vs es p i + t3 * pw i := by rw [vs, vs_set_ge _ _ _ _ _ (Nat.le_refl _), lm_set _ _ _ _ hk1, if_pos rfl]
              have fin : ∀ u : Bool, (u = true ↔ x2 < b + c) → (u = true → vs (es.set (p + i) t3) p (i + 1) + g * val ds = vs cs p (i + 1) + pw (i + 1)) ∧ (u = false → vs (es.set (p + i) t3) p (i + 1) + g * val ds = vs cs p (i + 1) ∧ vs (es.set (p + i) t3) p (i + 1) < val ds) := by
                intro u hu
                rw [hWeq, hUeq, pw_succ]
                constructor
                · intro h
                  have h1 := hu.1 h
                  have h2 := (rt2 h1).2
                  rw [show t3 = x2 + 4294967296 - (b + c) by omega]; exact h2
                · intro h
                  have h1 : b + c ≤ x2 := by
                    rcases Nat.lt_or_ge x2 (b + c) with e | e
                    · rw [hu.2 e] at h; cases h
                    · exact e
                  have h2 := rt1 h1
                  rw [show t3 = x2 - (b + c) by omega]
                  refine ⟨h2, ?_⟩
                  have h3 := F2.out
                  rw [hUeq] at h3
                  exact rfit h2 h3 F1.out
              have FIN := Lib.hid fin
              have HLOW : Hid (∀ j, j < p ∨ p + (i + 1) ≤ j → lm (es.set (p + i) t3) j = lm cs j) := fun j hj => by rw [lm_set _ _ _ _ hk1, if_neg (by omega)]; exact hlow.out j (by omega)
              have HSL : Hid ((es.set (p + i) t3).length = L + 1) := by show _ = _; rw [List.length_set]; exact hlen2.out
              have hls := lims_set hle2 (p + i) t3 ht3b
              clear hvn rt1 rt2 hUeq hWeq fin hd2 ht3 hxe hk1
              go_wp2_with fail
              go_loopw [15, 21] (fun s15 s21 wi => ∃ (g' : Nat) (u : Bool) (fs : List Nat), s15 = .int .u64 g' ∧ s21 = .bool u ∧ g' < 4294967296 ∧ Hid (fs.length = L + 1) ∧ Lims fs ∧ Own wi g1 fs ∧ Own wi g3 qs ∧ Own wi g2 ds ∧ Below w.heap.size w wi ∧
                  Hid (∀ j, j < p ∨ p + (i + 1) ≤ j → lm fs j = lm cs j) ∧ Hid ((u = true → vs fs p (i + 1) + g' * val ds = vs cs p (i + 1) + pw (i + 1)) ∧ (u = false → vs fs p (i + 1) + g' * val ds = vs cs p (i + 1) ∧ vs fs p (i + 1) < val ds))) (fun s15 _ _ => (intOf s15).toNat)
              case atStart => exact ⟨g, _, es.set (p + i) t3, rfl, rfl, by omega, HSL.out, hls, hoe2, hoq2.block (Below.heap_setCell _ _ _ _ (fun e => n31 e)), hod2.block (Below.heap_setCell _ _ _ _ (fun e => n21 e)), hbl2.setCell hgw1 _, HLOW.out, FIN.out _ (by rw [decide_eq_true_iff]; omega)⟩
              case round =>
                obtain ⟨g', u, fs, rfl, rfl, hg', hlen3, hlf, hof, hoq4, hod4, hbl4, hlow4, hu⟩ := hrel
                clear hoe hoe2 hoq2 hod2 hbl2 FIN HLOW HSL hls hu1 hu2 ha2
                cases u with
                | false =>
                  obtain ⟨e1, e2⟩ := hu.out.2 rfl
                  have hpq : p < qs.length := by rw [hlq.out]; omega
                  have hpc : p + (i + 1) ≤ cs.length := by rw [hlen.out]; omega
                  have hle4 : fs.length = cs.length := by rw [hlen3.out, hlen.out]
                  have g6 := Lib.hid (div_round hle4 hpc hlow4.out e1 hpq (hzero.out p (by omega)) hv.out)
                  have g7 := Lib.hid (div_drop hle4 hpc hlow4.out Q3.out e2)
                  have hcell := hoq4.cell (j := p) hpq
                  have hfro := hoq4.frozen p
                  have hoq5 := hoq4.setCell (j := p) hpq g'
                  clear e1 e2 hu
                  go_wp2_with fail
                  go_roundw
                  case rel => exact ⟨p, (p : Int) - 1, fs, qs.set p g', rfl, by omega, rfl, hlen3.out, by show _ = _; rw [List.length_set]; exact hlq.out, hlf, lims_set hlqs _ _ hg', hof.block (Below.heap_setCell _ _ _ _ (fun e => n13 e)), hoq5, hod4.block (Below.heap_setCell _ _ _ _ (fun e => n23 e)), hbl4.setCell hgw3 _,
                    fun j hj => by rw [lm_set _ _ _ _ hpq, if_neg (by omega)]; exact hzero.out j (by omega), g6.out, g7.out⟩
                  case measure => simp [intOf]
                | true =>
                  have hW := hu.out.1 rfl
                  have hg1' := rover_pos hW (vs_lt hlf p (i + 1))
                  have HW := Lib.hid hW
                  clear hW hu
                  go_wp2_with fail
                  go_loopw [22, 182] (fun s22 s182 wj => ∃ (r c2 : Nat) (hs : List Nat), r ≤ i ∧ s22 = .int .u64 c2 ∧ s182 = .int .i64 r ∧ c2 ≤ 1 ∧ Hid (hs.length = L + 1) ∧ Lims hs ∧ Own wj g1 hs ∧ Own wj g3 qs ∧ Own wj g2 ds ∧ Below w.heap.size w wj ∧
                      Hid (∀ j, j < p ∨ p + r ≤ j → lm hs j = lm fs j) ∧ Hid (vs hs p r + c2 * pw r = vs fs p r + vl ds r)) (fun _ s182 _ => i - (intOf s182).toNat)
                  case atStart => exact ⟨0, 0, fs, by omega, rfl, rfl, by omega, hlen3.out, hlf, hof, hoq4, hod4, hbl4, fun j _ => rfl, by show _ = _; simp [vs, vl]⟩
                  case round =>
                    obtain ⟨r, c2, hs, hri, rfl, rfl, hc2, hlen5, hlh, hoh, hoq6, hod6, hbl6, hlow6, hv6⟩ := hrel
                    clear hof hoq4 hod4 hbl4
                    by_cases hlt : r < i
                    · have hu1 := hoh.cell (j := p + r) (by rw [hlen5.out]; omega)
                      have hu2 := hoh.frozen (p + r)
                      have hv1 := hod6.cell (j := r) (by rw [hdl.out]; omega)
                      have hxb := hlh (p + r)
                      have hyb := hld r
                      obtain ⟨x, hxd⟩ : ∃ x, x = lm hs (p + r) := ⟨_, rfl⟩
                      obtain ⟨v, hvd2⟩ : ∃ v, v = lm ds r := ⟨_, rfl⟩
                      rw [← hxd] at hu1 hxb
                      rw [← hvd2] at hv1 hyb
                      obtain ⟨sm, hsm⟩ : ∃ sm, sm = c2 + x + v := ⟨_, rfl⟩
                      obtain ⟨d, hd⟩ : ∃ d, d = sm % 4294967296 := ⟨_, rfl⟩
                      have ha2 : bits BinOp.and IntKind.u64 ((c2 : Int) + (x : Int) + (v : Int)) 4294967295 = (d : Int) := and_of (s := sm) (by omega) (by omega) hd
                      have hdb : d < 4294967296 := by omega
                      have hst : x + v + c2 = d + 4294967296 * (sm / 4294967296) := by omega
                      have hcI : ((c2 : Int) + (x : Int) + (v : Int)) / 4294967296 = ((sm / 4294967296 : Nat) : Int) := by omega
                      have hcb : sm / 4294967296 ≤ 1 := by omega
                      have j1 : IntKind.i64.wrap ((p : Int) + (r : Int)) = (p : Int) + (r : Int) := IntWalk.i64_in _ (by omega)
                      have j2 : ((p : Int) + (r : Int)).toNat = p + r := by omega
                      have j3 : 0 ≤ (p : Int) + (r : Int) := by omega
                      have j4 : (p : Int) + (r : Int) < (L : Int) + 1 := by omega
                      have HX := Lib.hid hxd
                      have HV := Lib.hid hvd2
                      have HST := Lib.hid hst
                      have HCI := Lib.hid hcI
                      clear hxd hvd2 hsm hd hst hcI
                      go_wp2_with fail
                      go_quiet (fail)
                      go_wp2_with fail
                      have hk1 : p + r < hs.length := by rw [hlen5.out]; omega
                      have hoh2 := (hoh.drewN nq).setCell (j := p + r) hk1 d
                      go_roundw
                      case rel => exact ⟨r + 1, sm / 4294967296, hs.set (p + r) d, by omega, congrArg (Value.int .u64) HCI.out, by go_num, hcb, by show _ = _; rw [List.length_set]; exact hlen5.out, lims_set hlh _ _ hdb, hoh2, (hoq6.drewN nq).block (Below.heap_setCell _ _ _ _ (fun e => n31 e)), (hod6.drewN nq).block (Below.heap_setCell _ _ _ _ (fun e => n21 e)), (below_drewN hbl6 nq).setCell hgw1 _,
                        fun j hj => by rw [lm_set _ _ _ _ hk1, if_neg (by omega)]; exact hlow6.out j (by omega), by
                        show _ = _
                        rw [vs, vs_set_ge _ _ _ _ _ (Nat.le_refl _), lm_set _ _ _ _ hk1, if_pos rfl, vl, vs, pw_succ, ← HV.out, ← hlow6.out (p + r) (by omega), ← HX.out]
                        exact sum_step _ _ _ _ _ _ _ _ _ hv6.out HST.out⟩
                      case measure => simp [intOf]; omega
                    · obtain rfl : r = i := by omega
                      have hu1 := hoh.cell (j := p + r) (by rw [hlen5.out]; omega)
                      have hu2 := hoh.frozen (p + r)
                      have hxb := hlh (p + r)
                      have hxe := hlow6.out (p + r) (by omega)
                      obtain ⟨x, hxd⟩ : ∃ x, x = lm hs (p + r) := ⟨_, rfl⟩
                      rw [← hxd] at hu1 hxb hxe
                      obtain ⟨sm, hsm⟩ : ∃ sm, sm = c2 + x := ⟨_, rfl⟩
                      obtain ⟨d, hd⟩ : ∃ d, d = sm % 4294967296 := ⟨_, rfl⟩
                      have ha2 : bits BinOp.and IntKind.u64 ((c2 : Int) + (x : Int)) 4294967295 = (d : Int) := and_of (s := sm) (by omega) (by omega) hd
                      have hdb : d < 4294967296 := by omega
                      have hk1 : p + r < hs.length := by rw [hlen5.out]; omega
                      have hoh2 := hoh.setCell (j := p + r) hk1 d
                      have hWe : vs (hs.set (p + r) d) p (r + 1) + sm / 4294967296 * pw (r + 1) = vs fs p (r + 1) + val ds := by
                        have h1 := hv6.out
                        rw [show vl ds r = val ds by rw [← hdl.out]; exact vl_all ds] at h1
                        rw [vs, vs_set_ge _ _ _ _ _ (Nat.le_refl _), lm_set _ _ _ _ hk1, if_pos rfl, vs, ← hxe, pw_succ]
                        exact back_top h1 (by omega)
                      have hls5 := lims_set hlh (p + r) d hdb
                      obtain ⟨k1, k2, k3⟩ := rback HW.out (vs_lt hlf p (r + 1)) (Nat.lt_of_lt_of_le hDlt.out (pw_mono (by omega))) hWe
                      have fin : ∀ u : Bool, (u = true ↔ sm / 4294967296 = 0) → (u = true → vs (hs.set (p + r) d) p (r + 1) + (g' - 1) * val ds = vs cs p (r + 1) + pw (r + 1)) ∧ (u = false → vs (hs.set (p + r) d) p (r + 1) + (g' - 1) * val ds = vs cs p (r + 1) ∧ vs (hs.set (p + r) d) p (r + 1) < val ds) := by
                        intro u hu
                        constructor
                        · intro h; exact k3 (hu.1 h)
                        · intro h
                          refine k2 ?_
                          rcases Nat.lt_or_ge 0 (sm / 4294967296) with e | e
                          · omega
                          · rw [hu.2 (by omega)] at h; cases h
                      have FIN := Lib.hid fin
                      have hsmI : (((c2 : Int) + (x : Int)) / 4294967296) = ((sm / 4294967296 : Nat) : Int) := by omega
                      have HSI := Lib.hid hsmI
                      clear hWe k1 k2 k3 fin hsm hd hxd hxe hsmI
                      go_wp2_with fail
                      go_roundw
                      case rel => exact ⟨g' - 1, _, hs.set (p + r) d, congrArg (Value.int .u64) (by omega), rfl, by omega, by show _ = _; rw [List.length_set]; exact hlen5.out, hls5, hoh2, hoq6.block (Below.heap_setCell _ _ _ _ (fun e => n31 e)), hod6.block (Below.heap_setCell _ _ _ _ (fun e => n21 e)), hbl6.setCell hgw1 _,
                        fun j hj => by rw [lm_set _ _ _ _ hk1, if_neg (by omega), hlow6.out j (by omega)]; exact hlow4.out j (by omega), FIN.out _ (by rw [HSI.out, beq_iff_eq]; omega)⟩
                      case measure => simp [intOf]; omega
        · obtain rfl : p0 = 0 := by omega
          obtain rfl : z = -1 := by omega
          have hR : val cs < val zs * 2 ^ s := by
            have h1 := hdrop.out
            rwa [List.drop_zero, hvd.out] at h1
          have hE := hv.out
          rw [hvd.out] at hE
          obtain ⟨e1, e2⟩ := div_end hE hR (Nat.two_pow_pos s)
          rw [hvu.out, hvz.out] at e1 e2
          have E1 := Lib.hid e1
          have E2 := Lib.hid e2
          clear hR hE e1 e2 hz hdrop hv
          have hcrd := hoc.rd hlc (L + 1) (by rw [hlen.out]; exact Nat.le_refl _) (by omega)
          go_wp2_with fail
          refine (rTrim_len _ _ cs _ hcrd (by rw [hlen.out]; omega) _ hlen.out.symm).mono ?_; rintro e w6 ⟨ro, rc, rfl, hfr, hb6⟩
          obtain ⟨rs0, hrs0⟩ : ∃ rs0, rs0 = dig (val cs) := ⟨_, rfl⟩
          have hrl : Lims rs0 := by rw [hrs0]; exact lims_dig _
          have hrv : Hid (val rs0 = val cs) := by show _ = _; rw [hrs0, val_dig]
          have hrlen : rs0.length ≤ L + 1 := by rw [hrs0, ← hlen.out]; exact dig_length_val hlc
          rw [← hrs0] at hfr ⊢
          obtain ⟨ℓ, hℓ⟩ : ∃ ℓ, ℓ = rs0.length := ⟨_, rfl⟩
          have HLL := Lib.hid hℓ
          have hfc := hfr.1
          have hfm := hfr.2.1
          rw [← hℓ] at hrlen hfc ⊢
          clear hℓ hrs0
          have hoq6 := hoq.below hb6 hoq.lt
          have hblR := hbl.trans (hb6.mono hbl.size)
          have hg3w : g3 < w6.heap.size := hoq6.lt
          have hgw6 : wr.heap.size ≤ w6.heap.size := hb6.size
          have hg3r : g3 < wr.heap.size := hoq.lt
          have hwr : w.heap.size ≤ wr.heap.size := hbl.size
          clear hoc hoq hod hbl hcrd hb6
          go_wp2_with fail
          go_loopw [240] (fun s240 wi => ∃ (i : Nat) (es : List Nat), i ≤ ℓ ∧ s240 = .int .i64 i ∧ Hid (es.length = ℓ) ∧ Lims es ∧ Fr wr.heap.size wi ro rc es ∧ Own wi g3 qs ∧ Below w.heap.size w wi ∧ Hid (∀ j, i ≤ j → lm es j = lm rs0 j) ∧ Hid (vl es i = (val rs0 / 2 ^ s) % pw i)) (fun s240 _ => ℓ - (intOf s240).toNat)
          case atStart => exact ⟨0, rs0, by omega, rfl, HLL.out.symm, hrl, hfr, hoq6, hblR, fun j _ => rfl, by show _ = _; rw [vl, pw_zero, Nat.mod_one]⟩
          case round =>
            obtain ⟨i, es, hiℓ, rfl, hlen7, hle7, hf7, hoq7, hbl7, hlow7, hv7⟩ := hrel
            clear hfr hoq6 hblR
            by_cases hlt : i < ℓ
            · obtain ⟨br, rfl, hBr, hor⟩ := hf7.block (by rw [hlen7.out]; omega)
              have hk1 : i < es.length := by rw [hlen7.out]; omega
              have hx1 := hor.cell (j := i) hk1
              have hx2 := hor.frozen i
              have hxb := hle7 i
              have hyb := hle7 (i + 1)
              have hxe := hlow7.out i (Nat.le_refl _)
              have hye := hlow7.out (i + 1) (by omega)
              have hstep := shr_round (q := 0) (p := s) (i := i) hrl hs31 (by rw [← HLL.out]; omega)
              rw [List.drop_zero, Nat.zero_add, ← hxe, ← hye] at hstep
              obtain ⟨x, hxd⟩ : ∃ x, x = lm es i := ⟨_, rfl⟩
              obtain ⟨y, hyd⟩ : ∃ y, y = lm es (i + 1) := ⟨_, rfl⟩
              rw [← hxd, ← hyd] at hstep
              rw [← hxd] at hxb hx1
              rw [← hyd] at hyb
              obtain ⟨z1, z2⟩ := rshr_limb (y := y) hxb hs31
              obtain ⟨x1, hx1d⟩ : ∃ x1, x1 = x / 2 ^ s := ⟨_, rfl⟩
              have hsI : (x : Int) / 2 ^ s = (x1 : Int) := by rw [hx1d]; simp
              rw [← hx1d] at z1 z2
              by_cases hnx : i + 1 < ℓ
              · have hy1 := hor.cell (j := i + 1) (by rw [hlen7.out]; omega)
                rw [← hyd] at hy1
                obtain ⟨r, hr⟩ : ∃ r, r = 32 - s := ⟨_, rfl⟩
                have hrI : (32 : Int) - (s : Int) = (r : Int) := by omega
                have hr2 : 2 ^ r ≤ 2 ^ 32 := Nat.pow_le_pow_right (by omega) (by omega)
                rw [show (2 : Nat) ^ 32 = 4294967296 by rfl] at hr2
                obtain ⟨ys, hys⟩ : ∃ ys, ys = y * 2 ^ r := ⟨_, rfl⟩
                have hysb : ys ≤ 4294967295 * 4294967296 := by rw [hys]; exact Nat.mul_le_mul (by omega) hr2
                have hwI : IntKind.u64.wrap ((y : Int) * 2 ^ r) = (ys : Int) := by
                  have e : ((y * 2 ^ r : Nat) : Int) = (y : Int) * 2 ^ r := by simp
                  rw [← e, ← hys, IntKind.wrap_u64]; omega
                have hysb2 : (ys : Int) ≤ 18446744073709551615 := by omega
                obtain ⟨yl, hyl⟩ : ∃ yl, yl = ys % 4294967296 := ⟨_, rfl⟩
                have ha1 : bits BinOp.and IntKind.u64 (ys : Int) 4294967295 = (yl : Int) := by rw [and_mask ys (by omega), hyl]
                have hylb : yl < 4294967296 := by omega
                have hz : x1 ||| yl = (x + y * 4294967296) / 2 ^ s % 4294967296 := by rw [hyl, hys, hr]; exact z1
                obtain ⟨z, hzd⟩ : ∃ z, z = x1 ||| yl := ⟨_, rfl⟩
                have ho1 : bits BinOp.or IntKind.u32 (x1 : Int) (yl : Int) = (z : Int) := by
                  have := u32_or_nat x1 yl z2 hylb
                  rw [← hzd] at this; exact this
                have hzb : z < 4294967296 := by rw [hzd, hz]; exact Nat.mod_lt _ (by omega)
                rw [← hz, ← hzd] at hstep
                have ST := Lib.hid hstep
                have hor2 := (hor.setCell (j := i) hk1 x1).setCell (j := i) (by rw [List.length_set]; exact hk1) z
                have X1 := Lib.hid hx1d
                clear hstep z1 hx1d hr hr2 hys hysb hyl hz hzd hxd hyd hxe hye
                go_wp2_with fail
                go_region
                all_goals
                  go_wp2_with fail
                  go_roundw
                  case rel => exact ⟨i + 1, (es.set i x1).set i z, by omega, by go_num, by show _ = _; rw [List.length_set, List.length_set]; exact hlen7.out, lims_set (lims_set hle7 _ _ z2) _ _ hzb, Fr.of_own (hor2.block rfl) (lims_set (lims_set hle7 _ _ z2) _ _ hzb) hBr rc (by rw [List.length_set, List.length_set, hlen7.out]; exact hfc) hfm, ((hoq7.setFar (show g3 ≠ br by omega) _ _).setFar (show g3 ≠ br by omega) _ _).block rfl, ((hbl7.setCell (p := ⟨br, i, none⟩) (show w.heap.size ≤ br by omega) _).setCell (p := ⟨br, i, none⟩) (show w.heap.size ≤ br by omega) _).drew,
                    fun j hj => by rw [lm_set _ _ _ _ (by rw [List.length_set]; exact hk1), if_neg (by omega), lm_set _ _ _ _ hk1, if_neg (by omega)]; exact hlow7.out j (by omega), by
                    show _ = _
                    rw [vl, vl_set_ge _ _ _ _ (Nat.le_refl _), vl_set_ge _ _ _ _ (Nat.le_refl _), lm_set _ _ _ _ (by rw [List.length_set]; exact hk1), if_pos rfl, hv7.out]; exact ST.out.symm⟩
                  case measure => simp [intOf]; omega
              · have hy0 : y = 0 := by rw [hyd]; exact lm_ge _ _ (by rw [hlen7.out]; omega)
                have hz : x1 = (x + y * 4294967296) / 2 ^ s % 4294967296 := by
                  rw [hy0, Nat.zero_mul, Nat.add_zero, ← hx1d, Nat.mod_eq_of_lt z2]
                rw [← hz] at hstep
                have ST := Lib.hid hstep
                have hor2 := hor.setCell (j := i) hk1 x1
                have hge : (ℓ : Int) ≤ (i : Int) + 1 := by omega
                clear hstep z1 hx1d hz hxd hyd hxe hye hy0
                go_wp2_with fail
                go_roundw
                case rel => exact ⟨i + 1, es.set i x1, by omega, by go_num, (List.length_set ..).trans hlen7.out, lims_set hle7 _ _ z2, Fr.of_own hor2 (lims_set hle7 _ _ z2) hBr rc (by rw [List.length_set, hlen7.out]; exact hfc) hfm, hoq7.block (Below.heap_setCell _ _ _ _ (fun e => absurd (show g3 = br from e) (by omega))), hbl7.setCell (show w.heap.size ≤ br by omega) _,
                  fun j hj => by rw [lm_set _ _ _ _ hk1, if_neg (by omega)]; exact hlow7.out j (by omega), by
                  show _ = _
                  rw [vl, vl_set_ge _ _ _ _ (Nat.le_refl _), lm_set _ _ _ _ hk1, if_pos rfl, hv7.out]; exact ST.out.symm⟩
                case measure => simp [intOf]; omega
            · obtain rfl : i = ℓ := by omega
              have hval : val es = val xs % val ys := by
                have h1 := hv7.out
                rw [← hlen7.out, vl_all, hlen7.out] at h1
                have h2 : val rs0 < pw i := by rw [HLL.out]; exact val_lt hrl
                rw [h1, Nat.mod_eq_of_lt (Nat.lt_of_le_of_lt (Nat.div_le_self _ _) h2), hrv.out, E2.out]
              have HV := Lib.hid hval
              have hqrd := hoq7.rd hlqs m (by rw [hlq.out]; exact Nat.le_refl _) (by omega)
              clear hval
              go_wp2_with fail
              refine (rTrim_len _ _ qs _ hqrd (by rw [hlq.out]; omega) _ hlq.out.symm).mono ?_; rintro e w7 ⟨a7, c7, rfl, f7, b7⟩
              have hf8 := hf7.below b7
              go_wp2_with fail
              refine (rTrim_len _ _ es _ hf8.rd (by rw [hlen7.out]; omega) _ hlen7.out.symm).mono ?_; rintro e w8 ⟨a8, c8, rfl, f8, b8⟩
              go_wp2_with fail
              go_ret3
              have B7 := hbl7.trans (b7.mono hbl7.size)
              refine ⟨a7, c7, a8, c8, ?_, ?_, ?_, B7.trans (b8.mono B7.size)⟩
              · rw [E1.out, HV.out]; rfl
              · rw [E1.out] at f7; exact (f7.mono hbl7.size).below b8
              · rw [HV.out] at f8; exact f8.mono B7.size
end Go.Proofs.YtdcnkebcpaelpaaGreatDoor
