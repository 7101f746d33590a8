import Derived.Test.YtlgcflapgdkghaaDoorRat10
import Derived.Test.YtlgcflapgdkghaaDoorRat11
/- RationalMakes: the walk. -/
namespace Go.Proofs.YtlgcflapgdkghaaDoor
open Go.RowKit

set_option maxHeartbeats 20000000 in
set_option maxRecDepth 100000 in
theorem RationalMakes_any (s : Bool) (ao bo po qo : Option Addr) (ca cb cl cj : Nat) (xs ys zs ts : List Nat) (n d : Int) (w : World) (hx : Rd w ao ca xs) (hy : Rd w bo cb ys) (hz : Rd w po cl zs) (ht : Rd w qo cj ts) (hn0 : -9223372036854775808 ≤ n) (hn1 : n ≤ 9223372036854775807) (hd0 : -9223372036854775808 ≤ d) (hd1 : d ≤ 9223372036854775807) (htab : Tab w) :
    Calls Tryd.prog 3 #[.slice ao xs.length ca, .slice bo ys.length cb, .agg #[.bool s, .slice po zs.length cl, .slice qo ts.length cj], .int .i64 n, .int .i64 d] w fun e w' => e = .returned (.bool true) ∧ Below w.heap.size w w' := by
  obtain ⟨us, hu⟩ : ∃ us, us = xs.take 12 := ⟨_, rfl⟩
  obtain ⟨vs, hv⟩ : ∃ vs, vs = ys.take 12 := ⟨_, rfl⟩
  obtain ⟨us', hu'⟩ : ∃ us', us' = zs.take 12 := ⟨_, rfl⟩
  obtain ⟨vs', hv'⟩ : ∃ vs', vs' = ts.take 12 := ⟨_, rfl⟩
  obtain ⟨NN, S1⟩ := Cut_num hx hu
  obtain ⟨ND, S2⟩ := Cut_num hy hv
  have RX := cut_rq (s := s) hz ht hu' hv'
  obtain ⟨q, hq⟩ : ∃ q, q = rq s (val us') (dn (val vs')) := ⟨_, rfl⟩
  rw [← hq] at RX
  clear hq
  have CN : Hid (∀ w', Below w.heap.size w w' → Calls Tryd.prog 13 #[.slice ao xs.length ca] w' fun e w'' => e = .returned (.slice ao us.length ca) ∧ w' = w'') := fun w' hb => Cut_any ao ca xs us w' (hx.below hb) hu
  have CD : Hid (∀ w', Below w.heap.size w w' → Calls Tryd.prog 13 #[.slice bo ys.length cb] w' fun e w'' => e = .returned (.slice bo vs.length cb) ∧ w' = w'') := fun w' hb => Cut_any bo cb ys vs w' (hy.below hb) hv
  have CX : Hid (∀ w', Below w.heap.size w w' → Calls Tryd.prog 14 #[.agg #[.bool s, .slice po zs.length cl, .slice qo ts.length cj]] w' fun e w'' => e = .returned (.agg #[.bool s, .slice po us'.length cl, .slice qo vs'.length cj]) ∧ Below w'.heap.size w' w'') := fun w' hb => CutRatio_any s po qo cl cj zs ts us' vs' w' (hz.below hb) (ht.below hb) hu' hv'
  have FR : Hid (∀ w', Calls Tryd.prog 17 #[.int .i64 n, .int .i64 d] w' (ErrRes (d = 0) (rq (decide (n < 0) != decide (d < 0)) n.natAbs d.natAbs) 2 w')) := fun w' => Fraction_any n d hn0 hn1 hd0 hd1 w'
  have rFR : Hid (∀ w', Calls Tryd.prog 18 #[.int .i64 n, .int .i64 d] w' (ErrRes (d = 0) (rq (decide (n < 0) != decide (d < 0)) n.natAbs d.natAbs) 2 w')) := fun w' => rFraction_any n d hn0 hn1 hd0 hd1 w'
  have FI : Hid (∀ w', Calls Tryd.prog 20 #[.int .i64 n] w' (MakesQ (rq (decide (n < 0)) n.natAbs 1) 2 w')) := fun w' => FromInt_q n hn0 hn1 w'
  have rFI : Hid (∀ w', Calls Tryd.prog 21 #[.int .i64 n] w' (MakesQ (rq (decide (n < 0)) n.natAbs 1) 2 w')) := fun w' => rFromInt_q n hn0 hn1 w'
  obtain ⟨p1, hp1⟩ : ∃ p1, p1 = rq (decide (n < 0) != decide (d < 0)) n.natAbs d.natAbs := ⟨_, rfl⟩
  obtain ⟨p2, hp2⟩ : ∃ p2, p2 = rq (decide (n < 0)) n.natAbs 1 := ⟨_, rfl⟩
  rw [← hp1] at FR rFR
  rw [← hp2] at FI rFI
  obtain ⟨dz, hdz⟩ : ∃ dz : Prop, dz = (d = 0) := ⟨_, rfl⟩
  rw [← hdz] at FR rFR
  obtain ⟨nl, hnl⟩ : ∃ l, l = xs.length := ⟨_, rfl⟩
  obtain ⟨dl, hdl⟩ : ∃ l, l = ys.length := ⟨_, rfl⟩
  rw [← hnl] at CN ⊢
  rw [← hdl] at CD ⊢
  obtain ⟨W1, hW1⟩ : ∃ W1, W1 = w.alloc (.cells #[.bool s, .slice po zs.length cl, .slice qo ts.length cj] 25) := ⟨_, rfl⟩
  have hs1 : W1.heap.size = w.heap.size + 1 := by rw [hW1]; simp
  have B0 : Below w.heap.size w W1 := by rw [hW1]; exact below_new w _
  have x0 : W1.heap[w.heap.size]? = some (.cells #[.bool s, .slice po zs.length cl, .slice qo ts.length cj] 25 (0, 0)) := by
    rw [hW1]; exact heap_alloc_new w _
  obtain ⟨e0, e1, e2, _⟩ := at_block x0
  have HS := Lib.hid hs1
  clear hx hy hz ht hu hv hu' hv' hs1 hp1 hp2 hdz hnl hdl hn0 hn1 hd0 hd1
  go_enter Tryd.func3, Tryd.ntmps3
  go_wp2_with fail
  rw [← hW1]
  clear hW1
  go_region_with (first
    | (go_at_call_of 13 (Value.slice ao nl ca); refine (CN.out _ B0.drew).mono ?_; rintro e W2 ⟨rfl, rfl⟩)
    | (go_at_call_of 13 (Value.slice bo dl cb); refine (CD.out _ B0.drew).mono ?_; rintro e W2 ⟨rfl, rfl⟩)
    | (go_at_call 14; refine (CX.out _ B0.drew).mono ?_; rintro e W3 ⟨rfl, b1⟩; have B3 : Below w.heap.size w W3 := B0.drew.trans (b1.mono B0.drew.size); have x3 := (b1.block w.heap.size (by show w.heap.size < W1.heap.size; rw [HS.out]; omega)).trans (show W1.drew.heap[w.heap.size]? = _ from x0); obtain ⟨k0, k1, k2, k3, k4, k5⟩ := at_block x3))
  all_goals
    have x4 := set3_at x3 (.bool s) (.slice po us'.length cl) (.slice qo vs'.length cj)
    have B4 := below3 B3 (Nat.le_refl _) (.bool s) (.slice po us'.length cl) (.slice qo vs'.length cj)
    obtain ⟨W4, hW4⟩ : ∃ W4, W4 = (((W3.setCell ⟨w.heap.size, 0, none⟩ (.bool s)).setCell ⟨w.heap.size, 1, none⟩ (.slice po us'.length cl)).setCell ⟨w.heap.size, 2, none⟩ (.slice qo vs'.length cj)) := ⟨_, rfl⟩
    rw [← hW4] at x4 B4 ⊢
    clear hW4 x3 x0 k0 k1 k2 k3 k4 k5 e0 e1 e2 b1 B0 B3 CN CD CX HS
    have r1 := NN.below B4
    have r2 := ND.below B4
    go_wp2_with fail
    refine (New_any ao bo us.length ca vs.length cb (val us) (val vs) 12 _ r1 r2 S1 S2 (by omega)).mono ?_; rintro e W5 ⟨s5, a5, n5, c5, o5, m5, d5, er5, rfl, cq5, her5, b5⟩
    have n5x := below_new W5 (.cells #[.bool s5, .slice a5 n5 c5, .slice o5 m5 d5] 25)
    have B5 := (B4.trans (b5.mono B4.size)).trans (n5x.mono (B4.trans (b5.mono B4.size)).size)
    have x5 := carry (carry x4 b5) n5x
    have z5_5 := heap_alloc_new W5 (.cells #[.bool s5, .slice a5 n5 c5, .slice o5 m5 d5] 25)
    replace cq5 := cq5.below n5x
    obtain ⟨W6, hW6⟩ : ∃ W6, W6 = W5.alloc (.cells #[.bool s5, .slice a5 n5 c5, .slice o5 m5 d5] 25) := ⟨_, rfl⟩
    go_wp2_with fail
    rw [← hW6] at x5 z5_5 cq5 B5 ⊢
    clear hW6 x4 B4 b5 n5x r1 r2
    refine (rNew_any ao bo us.length ca vs.length cb (val us) (val vs) 12 _ (NN.below B5) (ND.below B5) S1 S2 (by omega)).mono ?_; rintro e W7 ⟨s7, a7, n7, c7, o7, m7, d7, er7, rfl, cq7, her7, b7⟩
    have n7x := below_new W7 (.cells #[.bool s7, .slice a7 n7 c7, .slice o7 m7 d7] 25)
    have B7 := (B5.trans (b7.mono B5.size)).trans (n7x.mono (B5.trans (b7.mono B5.size)).size)
    have x7 := carry (carry x5 b7) n7x
    have z5_7 := carry (carry z5_5 b7) n7x
    replace cq5 := (cq5.below b7).below n7x
    have z7_7 := heap_alloc_new W7 (.cells #[.bool s7, .slice a7 n7 c7, .slice o7 m7 d7] 25)
    replace cq7 := cq7.below n7x
    obtain ⟨W8, hW8⟩ : ∃ W8, W8 = W7.alloc (.cells #[.bool s7, .slice a7 n7 c7, .slice o7 m7 d7] 25) := ⟨_, rfl⟩
    go_wp2_with fail
    rw [← hW8] at x7 z5_7 z7_7 cq5 cq7 B7 ⊢
    clear hW8 x5 z5_5 B5 b7 n7x
    refine (FR.out _).mono ?_; rintro e W9 ⟨s9, a9, n9, c9, o9, m9, d9, er9, rfl, cq9, her9, b9⟩
    have n9x := below_new W9 (.cells #[.bool s9, .slice a9 n9 c9, .slice o9 m9 d9] 25)
    have B9 := (B7.trans (b9.mono B7.size)).trans (n9x.mono (B7.trans (b9.mono B7.size)).size)
    have x9 := carry (carry x7 b9) n9x
    have z5_9 := carry (carry z5_7 b9) n9x
    replace cq5 := (cq5.below b9).below n9x
    have z7_9 := carry (carry z7_7 b9) n9x
    replace cq7 := (cq7.below b9).below n9x
    have z9_9 := heap_alloc_new W9 (.cells #[.bool s9, .slice a9 n9 c9, .slice o9 m9 d9] 25)
    replace cq9 := cq9.below n9x
    obtain ⟨W10, hW10⟩ : ∃ W10, W10 = W9.alloc (.cells #[.bool s9, .slice a9 n9 c9, .slice o9 m9 d9] 25) := ⟨_, rfl⟩
    go_wp2_with fail
    rw [← hW10] at x9 z5_9 z7_9 z9_9 cq5 cq7 cq9 B9 ⊢
    clear hW10 x7 z5_7 z7_7 B7 b9 n9x
    refine (rFR.out _).mono ?_; rintro e W11 ⟨s11, a11, n11, c11, o11, m11, d11, er11, rfl, cq11, her11, b11⟩
    have n11x := below_new W11 (.cells #[.bool s11, .slice a11 n11 c11, .slice o11 m11 d11] 25)
    have B11 := (B9.trans (b11.mono B9.size)).trans (n11x.mono (B9.trans (b11.mono B9.size)).size)
    have x11 := carry (carry x9 b11) n11x
    have z5_11 := carry (carry z5_9 b11) n11x
    replace cq5 := (cq5.below b11).below n11x
    have z7_11 := carry (carry z7_9 b11) n11x
    replace cq7 := (cq7.below b11).below n11x
    have z9_11 := carry (carry z9_9 b11) n11x
    replace cq9 := (cq9.below b11).below n11x
    have z11_11 := heap_alloc_new W11 (.cells #[.bool s11, .slice a11 n11 c11, .slice o11 m11 d11] 25)
    replace cq11 := cq11.below n11x
    obtain ⟨W12, hW12⟩ : ∃ W12, W12 = W11.alloc (.cells #[.bool s11, .slice a11 n11 c11, .slice o11 m11 d11] 25) := ⟨_, rfl⟩
    rw [← hW12] at x11 z5_11 z7_11 z9_11 z11_11 cq5 cq7 cq9 cq11 B11
    clear x9 z5_9 z7_9 z9_9 B9 b11 n11x
    have K : Hid (∀ w', Below W12.heap.size W12 w' → w'.cell? ⟨w.heap.size, 0, none⟩ = some (.bool s) ∧ w'.cell? ⟨w.heap.size, 1, none⟩ = some (.slice po us'.length cl) ∧ w'.cell? ⟨w.heap.size, 2, none⟩ = some (.slice qo vs'.length cj) ∧ w'.cell? ⟨W5.heap.size, 0, none⟩ = some (.bool s5) ∧ w'.cell? ⟨W5.heap.size, 1, none⟩ = some (.slice a5 n5 c5) ∧ w'.cell? ⟨W5.heap.size, 2, none⟩ = some (.slice o5 m5 d5) ∧ w'.cell? ⟨W7.heap.size, 0, none⟩ = some (.bool s7) ∧ w'.cell? ⟨W7.heap.size, 1, none⟩ = some (.slice a7 n7 c7) ∧ w'.cell? ⟨W7.heap.size, 2, none⟩ = some (.slice o7 m7 d7) ∧ w'.cell? ⟨W9.heap.size, 0, none⟩ = some (.bool s9) ∧ w'.cell? ⟨W9.heap.size, 1, none⟩ = some (.slice a9 n9 c9) ∧ w'.cell? ⟨W9.heap.size, 2, none⟩ = some (.slice o9 m9 d9) ∧ w'.cell? ⟨W11.heap.size, 0, none⟩ = some (.bool s11) ∧ w'.cell? ⟨W11.heap.size, 1, none⟩ = some (.slice a11 n11 c11) ∧ w'.cell? ⟨W11.heap.size, 2, none⟩ = some (.slice o11 m11 d11) ∧ Below W12.heap.size W12 w') := by
      intro w' hb
      obtain ⟨j0, j1, j2, _⟩ := at_block (carry x11 hb)
      obtain ⟨k0, k1, k2, _⟩ := at_block (carry z5_11 hb)
      obtain ⟨l0, l1, l2, _⟩ := at_block (carry z7_11 hb)
      obtain ⟨m0, m1, m2, _⟩ := at_block (carry z9_11 hb)
      obtain ⟨p0, p1, p2, _⟩ := at_block (carry z11_11 hb)
      exact ⟨j0, j1, j2, k0, k1, k2, l0, l1, l2, m0, m1, m2, p0, p1, p2, hb⟩
    have KB : Hid (∀ w', Below W12.heap.size W12 w' → Below w.heap.size w w') := fun w' hb => B11.trans (hb.mono B11.size)
    have K5 : Hid (∀ w', Below W12.heap.size W12 w' → CQ W4.heap.size w' s5 a5 n5 c5 o5 m5 d5 (rq false (val us) (val vs)) 12) := fun w' hb => cq5.below hb
    have K7 : Hid (∀ w', Below W12.heap.size W12 w' → CQ W6.heap.size w' s7 a7 n7 c7 o7 m7 d7 (rq false (val us) (val vs)) 12) := fun w' hb => cq7.below hb
    have K9 : Hid (∀ w', Below W12.heap.size W12 w' → CQ W8.heap.size w' s9 a9 n9 c9 o9 m9 d9 p1 2) := fun w' hb => cq9.below hb
    have K11 : Hid (∀ w', Below W12.heap.size W12 w' → CQ W10.heap.size w' s11 a11 n11 c11 o11 m11 d11 p1 2) := fun w' hb => cq11.below hb
    have ee : (er5 == er7) = true := by rw [beq_iff_eq]; rcases her5 with ⟨h1, h2⟩ | ⟨h1, h2⟩ <;> rcases her7 with ⟨h3, h4⟩ | ⟨h3, h4⟩ <;> first | exact absurd h1 h3 | exact absurd h3 h1 | rw [h2, h4]
    have ff : (er9 == er11) = true := by rw [beq_iff_eq]; rcases her9 with ⟨h1, h2⟩ | ⟨h1, h2⟩ <;> rcases her11 with ⟨h3, h4⟩ | ⟨h3, h4⟩ <;> first | exact absurd h1 h3 | exact absurd h3 h1 | rw [h2, h4]
    have hTab := htab
    clear her5 her7 her9 her11 x11 z5_11 z7_11 z9_11 z11_11 cq5 cq7 cq9 cq11 B11
    go_wp2_with fail
    rw [← hW12]
    clear hW12
    go_region_held3 (fun w' => w'.cell? ⟨w.heap.size, 0, none⟩ = some (.bool s) ∧ w'.cell? ⟨w.heap.size, 1, none⟩ = some (.slice po us'.length cl) ∧ w'.cell? ⟨w.heap.size, 2, none⟩ = some (.slice qo vs'.length cj) ∧ w'.cell? ⟨W5.heap.size, 0, none⟩ = some (.bool s5) ∧ w'.cell? ⟨W5.heap.size, 1, none⟩ = some (.slice a5 n5 c5) ∧ w'.cell? ⟨W5.heap.size, 2, none⟩ = some (.slice o5 m5 d5) ∧ w'.cell? ⟨W7.heap.size, 0, none⟩ = some (.bool s7) ∧ w'.cell? ⟨W7.heap.size, 1, none⟩ = some (.slice a7 n7 c7) ∧ w'.cell? ⟨W7.heap.size, 2, none⟩ = some (.slice o7 m7 d7) ∧ w'.cell? ⟨W9.heap.size, 0, none⟩ = some (.bool s9) ∧ w'.cell? ⟨W9.heap.size, 1, none⟩ = some (.slice a9 n9 c9) ∧ w'.cell? ⟨W9.heap.size, 2, none⟩ = some (.slice o9 m9 d9) ∧ w'.cell? ⟨W11.heap.size, 0, none⟩ = some (.bool s11) ∧ w'.cell? ⟨W11.heap.size, 1, none⟩ = some (.slice a11 n11 c11) ∧ w'.cell? ⟨W11.heap.size, 2, none⟩ = some (.slice o11 m11 d11) ∧ Below W12.heap.size W12 w')
      (first | exact K.out _ (Below.refl _ _).drew | exact K.out _ (keepB v1 (by assumption) (Nat.le_refl _)) | exact K.out _ (keepB v2 (by assumption) (Nat.le_refl _)) | exact K.out _ (keepB v3 (by assumption) (Nat.le_refl _)) | exact K.out _ (keepB v4 (by assumption) (Nat.le_refl _)) | exact K.out _ (keepB v5 (by assumption) (Nat.le_refl _)) | exact K.out _ (keepB v6 (by assumption) (Nat.le_refl _)) | exact K.out _ (keepB v7 (by assumption) (Nat.le_refl _)) | exact K.out _ (keepB v8 (by assumption) (Nat.le_refl _)) | exact K.out _ (keepB v9 (by assumption) (Nat.le_refl _)) | exact K.out _ (keepB v10 (by assumption) (Nat.le_refl _)) | exact K.out _ (keepB v11 (by assumption) (Nat.le_refl _)))
      (first
        | (go_at_call_of 19 (Value.agg #[.bool s5, .slice a5 n5 c5, .slice o5 m5 d5]); go_split_ands; refine (Same_q (K5.out _ (by assumption)) (K7.out _ (by assumption)) rfl).mono ?_; rintro e V1 ⟨rfl, v1⟩)
        | (go_at_call_of 19 (Value.agg #[.bool s9, .slice a9 n9 c9, .slice o9 m9 d9]); go_split_ands; refine (Same_q (K9.out _ (by assumption)) (K11.out _ (by assumption)) rfl).mono ?_; rintro e V2 ⟨rfl, v2⟩)
        | (go_at_call 20; go_split_ands; refine (FI.out _).mono ?_; rintro e V3 ⟨s1, a1, n1, c1, o1, m1, d1, rfl, cr1, v3⟩)
        | (go_at_call 21; go_split_ands; refine (rFI.out _).mono ?_; rintro e V4 ⟨s2, a2, n2, c2, o2, m2, d2, rfl, cr2, v4⟩)
        | (go_at_call_of 19 (Value.agg #[.bool s1, .slice a1 n1 c1, .slice o1 m1 d1]); go_split_ands; refine (Same_q (cr1.below v4) cr2 rfl).mono ?_; rintro e V5 ⟨rfl, v5⟩)
        | (go_at_call 22; go_split_ands; refine (Normalize_q s po qo us'.length cl vs'.length cj 12 q _ (RX.below (KB.out _ (by assumption)))).mono ?_; rintro e V6 ⟨s3, a3, n3, c3, o3, m3, d3, rfl, cr3, v6⟩)
        | (go_at_call 23; go_split_ands; refine (rNormalize_q s po qo us'.length cl vs'.length cj 12 q _ (RX.below (KB.out _ (by assumption)))).mono ?_; rintro e V7 ⟨s4, a4, n4, c4, o4, m4, d4, rfl, cr4, v7⟩)
        | (go_at_call_of 19 (Value.agg #[.bool s3, .slice a3 n3 c3, .slice o3 m3 d3]); go_split_ands; refine (Same_q (cr3.below v7) cr4 rfl).mono ?_; rintro e V8 ⟨rfl, v8⟩)
        | (go_at_call_of 24 (Value.agg #[.bool s5, .slice a5 n5 c5, .slice o5 m5 d5]); go_split_ands; refine (canonical_q (K5.out _ (by assumption))).mono ?_; rintro e V9 ⟨rfl, v9⟩)
        | (go_at_call_of 24 (Value.agg #[.bool s9, .slice a9 n9 c9, .slice o9 m9 d9]); go_split_ands; refine (canonical_q (K9.out _ (by assumption))).mono ?_; rintro e V10 ⟨rfl, v10⟩)
        | (go_at_call 25; go_split_ands; refine (awake2_any _ (hTab.below (KB.out _ (by assumption)))).mono ?_; rintro e V11 ⟨rfl, v11⟩; have BV : Below W12.heap.size W12 V11 := keepB v11 (by assumption) (Nat.le_refl _)))
    go_wp2_with fail
    go_ret
    exact ⟨rfl, KB.out _ BV⟩
end Go.Proofs.YtlgcflapgdkghaaDoor
