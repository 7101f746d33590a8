import Derived.Test.YtdcnkebcpaelpaaGreatDoorRef3
import Derived.Test.YtdcnkebcpaelpaaGreatDoorRef2
/- Contract of the reference's Sub. -/
namespace Go.Proofs.YtdcnkebcpaelpaaGreatDoor
open Go.RowKit

set_option maxHeartbeats 1000000 in
set_option maxRecDepth 100000 in
theorem rSub_less (ao bo : Option Addr) (ca cb : Nat) (xs ys : List Nat) (w : World) (ha : Rd w ao ca xs) (hb : Rd w bo cb ys) (h : val xs < val ys) :
    Calls Tryz.prog 34 #[.slice ao xs.length ca, .slice bo ys.length cb] w fun e w' => e = .returned (.tuple #[.slice none 0 0, .bool false]) ∧ Below w.heap.size w w' := by
  have hc := Lib.hid (cmpn_lt h)
  clear h
  go_enter Tryz.func34, Tryz.ntmps34
  go_wp2_with fail
  refine (rCompare_any _ _ _ _ _ _ _ ha hb).mono ?_; rintro e w' ⟨rfl, hbl⟩
  rw [hc.out]
  go_wp2
  go_ret2
  exact ⟨rfl, hbl⟩

/-- one limb of a difference -/
theorem dif_step (V A B P x y b d b' : Nat) (h : V + B = A + b * P) (h2 : x + 4294967296 * b' = d + y + b) : V + d * P + (B + y * P) = A + x * P + b' * (P * 4294967296) := by
  have h3 : (x + 4294967296 * b') * P = (d + y + b) * P := by rw [h2]
  grind
theorem dif_end {ds ys : List Nat} {N m β : Nat} (hd : Lims ds) (h1 : ds.length = m) (h : vl ds m + val ys = N + β * pw m) (hle : val ys ≤ N) : val ds = N - val ys := by
  rw [← h1, vl_all, h1] at h
  have h3 := val_lt hd
  rw [h1] at h3
  rcases Nat.eq_zero_or_pos β with e | e
  · subst e; omega
  · have h4 : 1 * pw m ≤ β * pw m := Nat.mul_le_mul_right _ e
    omega

set_option maxHeartbeats 2000000 in
set_option maxRecDepth 100000 in
theorem rSub_any (ao bo : Option Addr) (ca cb : Nat) (xs ys : List Nat) (w : World) (ha : Rd w ao ca xs) (hb : Rd w bo cb ys) (h : val ys ≤ val xs) (hx : xs.length ≤ 549755813888) :
    Calls Tryz.prog 34 #[.slice ao xs.length ca, .slice bo ys.length cb] w fun e w' => ∃ ao' cap', e = .returned (.tuple #[.slice ao' (dig (val xs - val ys)).length cap', .bool true]) ∧ Fr w.heap.size w' ao' cap' (dig (val xs - val ys)) ∧ Below w.heap.size w w' := by
  have hc0 : 0 ≤ cmpn (val xs) (val ys) := by
    rcases Nat.lt_or_eq_of_le h with e | e
    · rw [cmpn_gt e]; omega
    · rw [cmpn_eq e.symm]; exact Int.le_refl 0
  have hdl := dig_length_val ha.lims
  have hm := hb.max
  have hle := hb.le
  obtain ⟨m, hmd⟩ : ∃ m, m = (dig (val xs)).length := ⟨_, rfl⟩
  have hvy : Hid (vl ys m = val ys) := by
    show _ = _
    have h1 : (trim ys).length ≤ m := by rw [hmd, trim_dig hb.lims]; exact dig_mono h
    rw [← val_trim ys, ← vl_ge (trim ys) m h1]
    exact vl_congr _ _ _ (fun j _ => (lm_trim ys j).symm)
  have HM := Lib.hid hmd
  have HLE := Lib.hid h
  rw [← hmd] at hdl
  clear hmd h
  go_enter Tryz.func34, Tryz.ntmps34
  go_wp2_with fail
  refine (rCompare_any _ _ _ _ _ _ _ ha hb).mono ?_; rintro e w0 ⟨rfl, hbl0⟩
  have hs0 := hbl0.size
  go_wp2_with fail
  refine (rTrim_any _ _ _ _ (ha.below hbl0) (by omega)).mono ?_; rintro e w1 ⟨ao1, cap1, rfl, hf, hbl1⟩
  rw [← HM.out]
  have hbl := hbl0.trans (hbl1.mono hs0)
  have hs1 := hbl.size
  obtain ⟨h1, h2, h3, h4⟩ := hf
  rcases h4 with ⟨rfl, h5, rfl⟩ | ⟨b, rfl, hBb, hown⟩
  · have hv0 : val xs = 0 := by rw [← val_dig (val xs), h5]; rfl
    have hz : Hid (dig (val xs - val ys) = []) := by show _ = _; rw [hv0, Nat.zero_sub]; rfl
    have hl0 : Hid (m = 0) := by show _ = _; rw [HM.out, h5]; rfl
    clear h5 hv0
    rw [hl0.out]
    go_wp2_with fail
    refine wp_loop_rounds 1 ?_
    rw [rounds_succ]
    go_wp2_with fail
    refine (rTrim_len none 0 [] _ (Rd.nil _) (by simp) 0 rfl).mono ?_; rintro e w2 ⟨ao2, cap2, rfl, hf2, hbl2⟩
    go_wp2_with fail
    go_ret2
    rw [hz.out]
    exact ⟨ao2, cap2, rfl, hf2.mono hs1, hbl.trans (hbl2.mono hs1)⟩
  · replace hBb : w.heap.size ≤ b := by omega
    obtain ⟨cs, hcs⟩ : ∃ cs, cs = dig (val xs) := ⟨_, rfl⟩
    have hcv : Hid (vl cs m = val xs) := by show _ = _; rw [hcs, HM.out, vl_all, val_dig]
    rw [← hcs] at hown h3 h1
    have hcl : cs.length = m := by rw [hcs, HM.out]
    have HC := Lib.hid hcl
    rw [hcl] at h1
    clear hcs hcl
    go_wp2_with fail
    go_loopw [7, 19] (fun s7 s19 wr => ∃ (i β : Nat) (ds : List Nat), i ≤ m ∧ s7 = .int .u64 β ∧ s19 = .int .i64 i ∧ β ≤ 1 ∧ Hid (ds.length = m) ∧ Lims ds ∧ Own wr b ds ∧ Below w.heap.size w wr ∧ Hid (∀ j, i ≤ j → lm ds j = lm cs j) ∧
        Hid (vl ds i + vl ys i = vl cs i + β * pw i)) (fun _ s19 _ => m - (intOf s19).toNat)
    case atStart => exact ⟨0, 0, cs, by omega, rfl, rfl, by omega, HC.out, h3, hown, hbl, fun j _ => rfl, by show _ = _; simp [vl]⟩
    case round =>
      obtain ⟨i, β, ds, hi, rfl, rfl, hβ, hlen, hld, hownr, hblr, hlow, hv⟩ := hrel
      have hbr := hb.below hblr
      by_cases hlt : i < m
      · have hy1 := hb.lims i
        have hx1 := hld i
        have hcell := hownr.cell (j := i) (by rw [hlen.out]; exact hlt)
        have hfro := hownr.frozen i
        obtain ⟨x, hxd⟩ : ∃ x, x = lm ds i := ⟨_, rfl⟩
        obtain ⟨y, hyd⟩ : ∃ y, y = lm ys i := ⟨_, rfl⟩
        rw [← hxd] at hx1 hcell
        rw [← hyd] at hy1
        have HX := Lib.hid hxd
        have HY := Lib.hid hyd
        have hcell3 : i < ys.length → ∃ b2 o, bo = some ⟨b2, o, none⟩ ∧ wr.cell? ⟨b2, o + i, none⟩ = some (.int .u32 ((y : Nat) : Int)) := fun h => by
          obtain ⟨b2, o, e, hcc⟩ := hbr.at (by omega)
          exact ⟨b2, o, e, by rw [hcc i h, HY.out]⟩
        have hy0 : ¬ i < ys.length → y = 0 := fun h => by rw [HY.out]; exact lm_ge _ _ (by omega)
        clear hxd hyd
        have fin : ∀ (d β' : Nat) (v : Int), v = (d : Int) → d < 4294967296 → β' ≤ 1 → x + 4294967296 * β' = d + y + β → (∃ (i' β2 : Nat) (ds' : List Nat), i' ≤ m ∧ Value.int .u64 ((β' : Nat) : Int) = .int .u64 β2 ∧ Value.int .i64 ((i : Int) + 1) = .int .i64 i' ∧ β2 ≤ 1 ∧ Hid (ds'.length = m) ∧ Lims ds' ∧ Own (wr.setCell ⟨b, i, none⟩ (.int .u32 v)) b ds' ∧ Below w.heap.size w (wr.setCell ⟨b, i, none⟩ (.int .u32 v)) ∧ Hid (∀ j, i' ≤ j → lm ds' j = lm cs j) ∧
            Hid (vl ds' i' + vl ys i' = vl cs i' + β2 * pw i')) := fun d β' v hv6 hd hb2 hst => by
          subst hv6
          exact ⟨i + 1, β', ds.set i d, by omega, rfl, by go_num, hb2, (List.length_set ..).trans hlen.out, lims_set hld i _ hd, hownr.setCell (j := i) (by rw [hlen.out]; exact hlt) d, hblr.setCell hBb _,
            fun j hj => by rw [lm_set _ _ _ _ (by rw [hlen.out]; exact hlt), if_neg (by omega)]; exact hlow.out j (by omega), by
              show _ = _
              rw [vl, vl, vl, vl_set_ge _ _ _ _ (Nat.le_refl _), lm_set _ _ _ _ (by rw [hlen.out]; exact hlt), if_pos rfl, pw_succ, ← HY.out, ← hlow.out i (Nat.le_refl _), ← HX.out]
              exact dif_step _ _ _ _ _ _ _ _ _ hv.out hst⟩
        have FIN := Lib.hid fin
        clear fin
        by_cases h2 : i < ys.length <;> by_cases h9 : x < β + y
        · obtain ⟨b2, o2, rfl, k2⟩ := hcell3 h2
          clear hcell3 hy0
          go_wp2_with fail
          go_roundw
          case rel => exact FIN.out (x + 4294967296 - (β + y)) 1 _ (by omega) (by omega) (by omega) (by omega)
          case measure => simp [intOf]; omega
        · obtain ⟨b2, o2, rfl, k2⟩ := hcell3 h2
          clear hcell3 hy0
          go_wp2_with fail
          go_roundw
          case rel => exact FIN.out (x - (β + y)) 0 _ (by omega) (by omega) (by omega) (by omega)
          case measure => simp [intOf]; omega
        · have y0 := hy0 h2
          have h9' : x < β := by omega
          have Y0 := Lib.hid y0
          clear hcell3 hy0 y0 h9
          go_wp2_with fail
          go_roundw
          case rel => exact FIN.out (x + 4294967296 - β) 1 _ (by omega) (by omega) (by omega) (by have := Y0.out; omega)
          case measure => simp [intOf]; omega
        · have y0 := hy0 h2
          have h9' : ¬ x < β := by omega
          have Y0 := Lib.hid y0
          clear hcell3 hy0 y0 h9
          go_wp2_with fail
          go_roundw
          case rel => exact FIN.out (x - β) 0 _ (by omega) (by omega) (by omega) (by have := Y0.out; omega)
          case measure => simp [intOf]; omega
      · obtain rfl : i = m := by omega
        have hval := dif_end hld hlen.out (by have := hv.out; rw [hvy.out, hcv.out] at this; exact this) HLE.out
        have HV := Lib.hid hval
        have hfr := (Fr.of_own (B := w.heap.size) hownr hld hBb cap1 (by rw [hlen.out]; exact h1) h2)
        have hln := Lib.hid hlen.out.symm
        have hlb2 : ds.length ≤ 1099511627776 := by rw [hlen.out]; omega
        clear hlen hv hval
        go_wp2_with fail
        refine (rTrim_len _ _ _ _ hfr.rd hlb2 _ hln.out).mono ?_; rintro e w2 ⟨ao', cap', rfl, hf2, hb2⟩
        go_wp2_with fail
        go_ret2
        rw [HV.out] at hf2 ⊢
        exact ⟨_, _, rfl, hf2.mono hblr.size, hblr.trans (hb2.mono hblr.size)⟩
end Go.Proofs.YtdcnkebcpaelpaaGreatDoor
/- Contract of the reference's Mul. -/
namespace Go.Proofs.YtdcnkebcpaelpaaGreatDoor
open Go.RowKit

set_option maxHeartbeats 8000000 in
set_option maxRecDepth 100000 in
theorem rMul_any (ao bo : Option Addr) (ca cb : Nat) (xs ys : List Nat) (w : World) (ha : Rd w ao ca xs) (hb : Rd w bo cb ys) (hx : xs.length ≤ 549755813888) (hy : ys.length ≤ 549755813888) :
    Calls Tryz.prog 30 #[.slice ao xs.length ca, .slice bo ys.length cb] w fun e w' => ∃ ao' cap', e = .returned (.slice ao' (dig (val xs * val ys)).length cap') ∧ Fr w.heap.size w' ao' cap' (dig (val xs * val ys)) ∧ Below w.heap.size w w' := by
  have hma := ha.max
  have hmb := hb.max
  have hla := ha.le
  have hlb := hb.le
  have hlx := trim_length_le xs
  have hly := trim_length_le ys
  obtain ⟨us, hu⟩ : ∃ us, us = trim xs := ⟨_, rfl⟩
  obtain ⟨zs, hz⟩ : ∃ zs, zs = trim ys := ⟨_, rfl⟩
  have hau : Rd w ao ca us := by rw [hu]; exact ha.trim
  have hbz : Rd w bo cb zs := by rw [hz]; exact hb.trim
  have hvu : Hid (val us = val xs) := by show _ = _; rw [hu, val_trim]
  have hvz : Hid (val zs = val ys) := by show _ = _; rw [hz, val_trim]
  rw [← hu] at hlx
  rw [← hz] at hly
  have hsx : ∀ w' : World, Rd w' ao ca xs → Calls Tryz.prog 49 #[.slice ao xs.length ca] w' fun e w'' => e = .returned (.int .i64 ((us.length : Nat) : Int)) ∧ w' = w'' := fun w' h => by rw [hu]; exact rsize_any ao ca xs w' h
  have hsy : ∀ w' : World, Rd w' bo cb ys → Calls Tryz.prog 49 #[.slice bo ys.length cb] w' fun e w'' => e = .returned (.int .i64 ((zs.length : Nat) : Int)) ∧ w' = w'' := fun w' h => by rw [hz]; exact rsize_any bo cb ys w' h
  have U := Lib.hid hu
  have Z := Lib.hid hz
  have SX := Lib.hid hsx
  have SY := Lib.hid hsy
  clear hu hz hsx hsy
  obtain ⟨i0, hi, hz0, hz1, hz2⟩ := info_parts infoU32
  go_enter Tryz.func30, Tryz.ntmps30
  go_wp2_with fail
  go_quiet ((first
    | (go_at_call_of 49 (Value.slice ao xs.length ca); exact Calls.quiet_of_same ((SX.out _ (by first | exact ha.drewN _ | exact ha)).mono fun e w' h => ⟨h.1, h.2.symm⟩))
    | (go_at_call_of 49 (Value.slice bo ys.length cb); exact Calls.quiet_of_same ((SY.out _ (by first | exact hb.drewN _ | exact hb)).mono fun e w' h => ⟨h.1, h.2.symm⟩))))
  go_wp2_with (at_make; refine wpList_make_full _ rfl _ _ 23 rfl w.heap.size 35 i0 (.int .u32 0) 1 Tryz.underlying23 hi hz0 hz1 _ _ _ _ (us.length + zs.length) rfl rfl (by omega) (by omega) (by rw [hz2]; omega) (by unfold maxLen; omega) (Nat.le_refl _) ?_; intro w1 hown hgr)
  have hown0 := Own.made hown
  clear hown hi hz0 hz1 hz2
  have hbel : Below w.heap.size w w1 := (below_drewN (Below.refl _ _) _).grown hgr (Nat.le_refl _) (fun k hk => by cases hk)
  go_loopw [25] (fun s25 wr => ∃ (i : Nat) (cs : List Nat), i ≤ us.length ∧ s25 = .int .i64 i ∧ Hid (cs.length = us.length + zs.length) ∧ Lims cs ∧ Own wr w.heap.size cs ∧ Below w.heap.size w wr ∧ Hid (∀ j, i + zs.length ≤ j → lm cs j = 0) ∧
      Hid (vl cs (i + zs.length) = vl us i * val ys)) (fun s25 _ => us.length - (intOf s25).toNat)
  case atStart => exact ⟨0, _, by omega, rfl, List.length_replicate .., lims_replicate _, hown0, hbel, fun j _ => lm_replicate _ _, by show _ = _; rw [vl_replicate, vl, Nat.zero_mul]⟩
  case round =>
    obtain ⟨i, cs, hi, rfl, hlen, hlc, hown, hbl, hzero, hv⟩ := hrel
    by_cases hlt : i < us.length
    · go_wp2_with fail
      obtain ⟨wo, rfl⟩ : ∃ wo : World, wo = wr := ⟨_, rfl⟩
      go_loopw [7, 30] (fun s7 s30 wi => ∃ (k c : Nat) (ds : List Nat), k ≤ zs.length ∧ s7 = .int .u64 c ∧ s30 = .int .i64 k ∧ c < 4294967296 ∧ Hid (ds.length = us.length + zs.length) ∧ Lims ds ∧ Own wi w.heap.size ds ∧ Below w.heap.size w wi ∧
          Hid (∀ j, j < i ∨ i + k ≤ j → lm ds j = lm cs j) ∧ Hid (vs ds i k + c * pw k = lm us i * vl zs k + vs cs i k)) (fun _ s30 _ => zs.length - (intOf s30).toNat)
      case atStart => exact ⟨0, 0, cs, by omega, rfl, rfl, by omega, hlen.out, hlc, hown, hbl, fun j _ => rfl, by show _ = _; simp [vs, vl]⟩
      case round =>
        obtain ⟨k, c, ds, hk, rfl, rfl, hc, hlen2, hld, hown2, hbl2, hlow, hv2⟩ := hrel
        by_cases hlt2 : k < zs.length
        · obtain ⟨b1, o1, rfl, hcx⟩ := (hau.below hbl2).at (by omega)
          obtain ⟨b2, o2, rfl, hcy⟩ := (hbz.below hbl2).at (by omega)
          have cx := hcx i hlt
          have cy := hcy k hlt2
          have ht := hld (i + k)
          have hcell := hown2.cell (j := i + k) (by rw [hlen2.out]; omega)
          have hfro := hown2.frozen (i + k)
          have hxb := hau.lims i
          have hyb := hbz.lims k
          obtain ⟨t, htd⟩ : ∃ t, t = lm ds (i + k) := ⟨_, rfl⟩
          obtain ⟨f, hfd⟩ : ∃ f, f = lm us i := ⟨_, rfl⟩
          obtain ⟨y, hyd⟩ : ∃ y, y = lm zs k := ⟨_, rfl⟩
          rw [← htd] at hcell ht
          rw [← hfd] at cx hxb
          rw [← hyd] at cy hyb
          have hpb := mul_le_limb hyb hxb
          obtain ⟨p, hp⟩ : ∃ p, p = y * f := ⟨_, rfl⟩
          rw [← hp] at hpb
          obtain ⟨q, hq⟩ : ∃ q, q = c + t := ⟨_, rfl⟩
          obtain ⟨s, hs⟩ : ∃ s, s = q + p := ⟨_, rfl⟩
          obtain ⟨d, hd⟩ : ∃ d, d = s % 4294967296 := ⟨_, rfl⟩
          have hw1 : IntKind.u64.wrap ((c : Int) + (t : Int)) = (q : Int) := by rw [IntKind.wrap_u64]; omega
          have hw2 : IntKind.u64.wrap ((f : Int) * (y : Int)) = (p : Int) := by rw [Int.mul_comm, ← Int.natCast_mul, ← hp, IntKind.wrap_u64]; omega
          have hw3 : IntKind.u64.wrap ((q : Int) + (p : Int)) = (s : Int) := by rw [IntKind.wrap_u64]; omega
          have hand : bits BinOp.and IntKind.u64 (s : Int) 4294967295 = (d : Int) := by rw [and_mask s (by omega), hd]
          have hwi : IntKind.i64.wrap ((i : Int) + (k : Int)) = (i : Int) + (k : Int) := IntWalk.i64_in _ (by omega)
          have hwn : ((i : Int) + (k : Int)).toNat = i + k := by omega
          have hwp : 0 ≤ (i : Int) + (k : Int) := by omega
          have hwl : (i : Int) + (k : Int) < (us.length : Int) + (zs.length : Int) := by omega
          have hsb : (s : Int) ≤ 18446744073709551615 := by omega
          have hdb : d < 4294967296 := by omega
          have hsd : s / 4294967296 < 4294967296 := by omega
          have hstep : c + (y * f + t) = d + 4294967296 * (s / 4294967296) := by rw [← hp]; omega
          have H1 := Lib.hid htd
          have H2 := Lib.hid hfd
          have H3 := Lib.hid hyd
          have HS := Lib.hid hstep
          clear htd hfd hyd hp hq hs hd hcx hcy hstep
          go_wp2_with fail
          go_quiet (fail)
          clear hwi hwn hw1 hw2 hw3
          go_wp2_with fail
          have hk1 : i + k < ds.length := by rw [hlen2.out]; omega
          go_roundw
          case rel => exact ⟨k + 1, s / 4294967296, _, by omega, by go_num, by go_num, hsd, (List.length_set ..).trans hlen2.out, lims_set hld (i + k) d hdb, (hown2.drewN _).setCell (j := i + k) hk1 d, (below_drewN hbl2 _).setCell (Nat.le_refl _) _,
            fun j hj => by rw [lm_set _ _ _ _ hk1, if_neg (by omega)]; exact hlow.out j (by omega), by
            show _ = _
            rw [vs, vs_set_ge _ _ _ _ _ (Nat.le_refl _), lm_set _ _ _ _ hk1, if_pos rfl, vl, vs, pw_succ, ← H3.out, ← H2.out, ← hlow.out (i + k) (by omega), ← H1.out]
            have hv3 := hv2.out
            rw [← H2.out] at hv3
            exact mul_step _ _ _ _ _ _ _ _ _ _ hv3 HS.out⟩
          case measure => simp [intOf]; omega
        · obtain rfl : k = zs.length := by omega
          have hcell := hown2.cell (j := i + zs.length) (by rw [hlen2.out]; omega)
          have hfro := hown2.frozen (i + zs.length)
          have hk1 : i + zs.length < ds.length := by rw [hlen2.out]; omega
          go_wp2_with fail
          have hw := hown2.setCell (j := i + zs.length) hk1 c
          go_roundw
          case rel => exact ⟨i + 1, _, by omega, by go_num, (List.length_set ..).trans hlen2.out, lims_set hld _ _ hc, hw, hbl2.setCell (Nat.le_refl _) _,
            fun j hj => by rw [lm_set _ _ _ _ hk1, if_neg (by omega), hlow.out j (by omega)]; exact hzero.out j (by omega), by
            show _ = _
            refine mul_round hv.out (hzero.out _ (Nat.le_refl _)) ?_ (vl_congr _ _ _ (fun j hj => by rw [lm_set _ _ _ _ hk1, if_neg (by omega)]; exact hlow.out j (by omega)))
            have h1 := hv2.out
            rw [vl_all, hvz.out] at h1
            rw [vs, vs_set_ge _ _ _ _ _ (Nat.le_refl _), lm_set _ _ _ _ hk1, if_pos rfl, vs, hzero.out _ (Nat.le_refl _)]
            omega⟩
          case measure => simp [intOf]; omega
    · obtain rfl : i = us.length := by omega
      have hval : val cs = val xs * val ys := by
        have h1 := hv.out
        rw [← hlen.out, vl_all, vl_all, hvu.out] at h1
        exact h1
      have HV := Lib.hid hval
      have hfr := Fr.of_own (B := w.heap.size) hown hlc (Nat.le_refl _) (us.length + zs.length) (by rw [hlen.out]; exact Nat.le_refl _) (by omega)
      have hln := Lib.hid hlen.out.symm
      have hlb2 : cs.length ≤ 1099511627776 := by rw [hlen.out]; omega
      clear hlen hv hval
      go_wp2_with fail
      refine (rTrim_len _ _ _ _ hfr.rd hlb2 _ hln.out).mono ?_; rintro e w2 ⟨ao', cap', rfl, hf2, hb2⟩
      go_wp2_with fail
      go_ret
      rw [HV.out] at hf2 ⊢
      exact ⟨_, _, rfl, hf2.mono hbl.size, hbl.trans (hb2.mono hbl.size)⟩
end Go.Proofs.YtdcnkebcpaelpaaGreatDoor
