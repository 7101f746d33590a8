import Derived.Test.YtjijnngblhddkaaGreatDoorPrts
import Derived.Test.YtjijnngblhddkaaGreatDoorRat10
import Derived.Test.YtjijnngblhddkaaGreatDoorAwake2
import Derived.Deep.CutRange
/- RationalPrints: the walk. -/
namespace Go.Proofs.YtjijnngblhddkaaGreatDoor
open Go.RowKit

theorem field_num (s : Bool) (a : Option Addr) (n c : Nat) (o : Option Addr) (m d : Nat) (w : World) : Sem.run Tryz.prog (Instr.field 25 (Value.agg #[.bool s, .slice a n c, .slice o m d]) 1) w = Result.ok (.slice a n c) w := by kernel_rfl

set_option maxHeartbeats 20000000 in
set_option maxRecDepth 100000 in
theorem RationalPrints_any (s : Bool) (ao bo : Option Addr) (ca cb : Nat) (xs ys : List Nat) (i : Int) (w : World) (hx : Rd w ao ca xs) (hy : Rd w bo cb ys) (hi0 : -9223372036854775808 ≤ i) (hi1 : i ≤ 9223372036854775807) (htab : Tab w) (hev : ErrV w) :
    Calls Tryz.prog 3 #[.agg #[.bool s, .slice ao xs.length ca, .slice bo ys.length cb], .int .i64 i] w fun e w' => e = .returned (.bool true) ∧ Below w.heap.size w w' := by
  obtain ⟨j, hij⟩ : ∃ j : Nat, min (max i 0) 12 = (j : Int) := ⟨(min (max i 0) 12).toNat, by omega⟩
  have hj12 : j ≤ 12 := by omega
  obtain ⟨us, hu⟩ : ∃ us, us = xs.take 12 := ⟨_, rfl⟩
  obtain ⟨vs, hv⟩ : ∃ vs, vs = ys.take 12 := ⟨_, rfl⟩
  have RX := cut_rq (s := s) hx hy hu hv
  obtain ⟨n1, hn1⟩ : ∃ n, n = us.length := ⟨_, rfl⟩
  obtain ⟨m1, hm1⟩ : ∃ n, n = vs.length := ⟨_, rfl⟩
  have CX : Hid (∀ w', Below w.heap.size w w' → Calls Tryz.prog 7 #[.agg #[.bool s, .slice ao xs.length ca, .slice bo ys.length cb]] w' fun e w'' => e = .returned (.agg #[.bool s, .slice ao n1 ca, .slice bo m1 cb]) ∧ Below w'.heap.size w' w'') := fun w' hb => by rw [hn1, hm1]; exact CutRatio_any s ao bo ca cb xs ys us vs w' (hx.below hb) (hy.below hb) hu hv
  rw [← hn1, ← hm1] at RX
  obtain ⟨p, hp⟩ : ∃ p, p = rq s (val us) (dn (val vs)) := ⟨_, rfl⟩
  rw [← hp] at RX
  obtain ⟨U, hU⟩ : ∃ U, U = ru (rn p) p.den (10 ^ j) := ⟨_, rfl⟩
  have hUl : U < 10 ^ 131 := by rw [hU]; exact units_len RX hj12
  obtain ⟨A, hA⟩ : ∃ A, A = rq s U (10 ^ j) := ⟨_, rfl⟩
  obtain ⟨FT, hFT⟩ : ∃ B, B = txtB (ftext s U j) := ⟨_, rfl⟩
  have hFz : FT.size ≤ 1000 := by rw [hFT]; exact ftext_len s U j hj12 hUl
  have hFl : FT.data.toList = ftext s U j := by rw [hFT]; exact txtB_list _
  obtain ⟨c, hc⟩ : ∃ c : Prop, c = ¬ pOk (pneg FT.data.toList) (pbody FT.data.toList) := ⟨_, rfl⟩
  obtain ⟨x, hxq⟩ : ∃ x, x = pqv FT.data.toList := ⟨_, rfl⟩
  obtain ⟨b1, hb1⟩ : ∃ b, b = bl (rn p) := ⟨_, rfl⟩
  obtain ⟨b2, hb2⟩ : ∃ b, b = bl p.den := ⟨_, rfl⟩
  have hread : b1 ≤ b2 + 90 → ¬ c ∧ x = A := fun h => by
    rw [hb1, hb2] at h
    have h1 := ftext_reads s U j hj12 (by rw [hU]; exact units_short (den_pos p) h)
    rw [hc, hxq, hA, hFl]
    exact ⟨fun k => k h1.1, h1.2⟩
  have C1 : Hid (∀ w', Below w.heap.size w w' → Calls Tryz.prog 8 #[.agg #[.bool s, .slice ao n1 ca, .slice bo m1 cb], .int .i64 i] w' fun e w2 => e = .returned (.string FT) ∧ Below w'.heap.size w' w2) := fun w' hb => by
    rw [hFT, hU]; exact qFormat_v s ao bo n1 ca m1 cb p i j w' (RX.below hb) hij (htab.below hb)
  have C2 : Hid (∀ w', Below w.heap.size w w' → Calls Tryz.prog 9 #[.agg #[.bool s, .slice ao n1 ca, .slice bo m1 cb], .int .i64 i] w' fun e w2 => e = .returned (.string FT) ∧ Below w'.heap.size w' w2) := fun w' hb => by
    rw [hFT, hU]; exact rqFormat_v s ao bo n1 ca m1 cb p i j w' (RX.below hb) hij
  have C3 : Hid (∀ w', Below w.heap.size w w' → Calls Tryz.prog 10 #[.string FT] w' (FormRes c x 512 w')) := fun w' hb => by
    rw [hc, hxq]; exact qParse_v FT w' hFz (hev.below hb)
  have C4 : Hid (∀ w', Below w.heap.size w w' → Calls Tryz.prog 12 #[.agg #[.bool s, .slice ao n1 ca, .slice bo m1 cb]] w' (MakesQ p 12 w')) := fun w' hb => rNormalize_q s ao bo n1 ca m1 cb 12 p w' (RX.below hb)
  have C5 : Hid (∀ w', Below w.heap.size w w' → Calls Tryz.prog 13 #[.agg #[.bool s, .slice ao n1 ca, .slice bo m1 cb]] w' (Makes p.den w')) := fun w' hb => rDenominator_q s ao bo n1 ca m1 cb 12 p w' (RX.below hb)
  have C6 : Hid (∀ w', Below w.heap.size w w' → Calls Tryz.prog 16 #[.agg #[.bool s, .slice ao n1 ca, .slice bo m1 cb], .int .i64 i] w' (MakesQ A 312 w')) := fun w' hb => by
    rw [hA, hU]; exact rRound_q s ao bo n1 ca m1 cb 12 j i p w' (RX.below hb) (by omega) hij
  have AW : Hid (∀ w', Below w.heap.size w w' → Calls Tryz.prog 14 #[] w' fun e w2 => e = .returned (.bool true) ∧ Below w'.heap.size w' w2) := fun w' hb => awake2_any w' (htab.below hb)
  have NB : Hid (∀ w' a n c, Num w' a n c (rn p) → Calls Tryz.prog 11 #[.slice a n c] w' fun e w2 => e = .returned (.int .i64 (b1 : Int)) ∧ Below w'.heap.size w' w2) := fun w' a n c h => by
    rw [hb1]
    refine (rBits_num h).mono ?_; rintro e w2 ⟨rfl, rfl⟩
    exact ⟨rfl, Below.refl _ _⟩
  have ND : Hid (∀ w' a n c, Num w' a n c p.den → Calls Tryz.prog 11 #[.slice a n c] w' fun e w2 => e = .returned (.int .i64 (b2 : Int)) ∧ Below w'.heap.size w' w2) := fun w' a n c h => by
    rw [hb2]
    refine (rBits_num h).mono ?_; rintro e w2 ⟨rfl, rfl⟩
    exact ⟨rfl, Below.refl _ _⟩
  have HB1 := Lib.hid hb1
  have HB2 := Lib.hid hb2
  have HRD := Lib.hid hread
  have B0 := below_new w (.cells #[.bool s, .slice ao xs.length ca, .slice bo ys.length cb] 25)
  have x0 := heap_alloc_new w (.cells #[.bool s, .slice ao xs.length ca, .slice bo ys.length cb] 25)
  clear hx hy hu hv hn1 hm1 hp hU hUl hA hFT hFz hFl hc hxq hb1 hb2 hread htab hev hij hj12 RX
  go_enter Tryz.func3, Tryz.ntmps3
  go_wp2_with fail
  refine (CX.out _ B0).mono ?_; rintro e W2 ⟨rfl, b2'⟩
  have x2 := carry x0 b2'
  have B2 := B0.trans (b2'.mono B0.size)
  obtain ⟨c0, c1, c2, z0, z1, z2⟩ := at_block x2
  have x3 := set3_at x2 (.bool s) (.slice ao n1 ca) (.slice bo m1 cb)
  have B3 := below3 B2 (Nat.le_refl _) (.bool s) (.slice ao n1 ca) (.slice bo m1 cb)
  obtain ⟨W3, hW3⟩ : ∃ W3, W3 = ((W2.setCell ⟨w.heap.size, 0, none⟩ (.bool s)).setCell ⟨w.heap.size, 1, none⟩ (.slice ao n1 ca)).setCell ⟨w.heap.size, 2, none⟩ (.slice bo m1 cb) := ⟨_, rfl⟩
  rw [← hW3] at x3 B3
  obtain ⟨e0, e1, e2, _⟩ := at_block x3
  clear x0 x2 b2' B0 B2 CX
  go_upto_region 2 with fail
  rw [← hW3]
  clear hW3 c0 c1 c2 z0 z1 z2
  go_wp2_with fail
  refine (C1.out _ B3).mono ?_; rintro e W4 ⟨rfl, b4⟩
  have x4 := carry x3 b4
  have B4 := B3.trans (b4.mono B3.size)
  clear x3 b4 B3 e0 e1 e2
  obtain ⟨e0, e1, e2, _⟩ := at_block x4
  go_wp2_with fail
  refine (C2.out _ B4).mono ?_; rintro e W5 ⟨rfl, b5⟩
  have x5 := carry x4 b5
  have B5 := B4.trans (b5.mono B4.size)
  clear x4 b5 B4 e0 e1 e2
  go_wp2_with fail
  refine (C3.out _ B5).mono ?_; rintro e W6 ⟨s5, a5, n5, c5, o5, m5, d5, er, rfl, cq5, her, b6⟩
  have n6x := below_new W6 (.cells #[.bool s5, .slice a5 n5 c5, .slice o5 m5 d5] 25)
  have y7 := heap_alloc_new W6 (.cells #[.bool s5, .slice a5 n5 c5, .slice o5 m5 d5] 25)
  have x7 := carry (carry x5 b6) n6x
  have B6 := B5.trans (b6.mono B5.size)
  have B7 := B6.trans (n6x.mono B6.size)
  have q7 := (cq5.below n6x).mono (Nat.zero_le _)
  obtain ⟨W7, hW7⟩ : ∃ W, W = W6.alloc (.cells #[.bool s5, .slice a5 n5 c5, .slice o5 m5 d5] 25) := ⟨_, rfl⟩
  rw [← hW7] at y7 x7 B7 q7
  have HER := Lib.hid her
  clear n6x x5 B5 B6 b6 cq5 her
  go_upto_region 6 with fail
  rw [← hW7]
  clear hW7
  obtain ⟨gy, hgy⟩ : ∃ g, g = W6.heap.size := ⟨_, rfl⟩
  rw [← hgy] at y7 ⊢
  clear hgy
  have K : Hid (∀ w', Below W7.heap.size W7 w' → w'.cell? ⟨w.heap.size, 0, none⟩ = some (.bool s) ∧ w'.cell? ⟨w.heap.size, 1, none⟩ = some (.slice ao n1 ca) ∧ w'.cell? ⟨w.heap.size, 2, none⟩ = some (.slice bo m1 cb) ∧ w'.cell? ⟨gy, 0, none⟩ = some (.bool s5) ∧ w'.cell? ⟨gy, 1, none⟩ = some (.slice a5 n5 c5) ∧ w'.cell? ⟨gy, 2, none⟩ = some (.slice o5 m5 d5)) := fun w' hb => by
    obtain ⟨a, b, c, _⟩ := at_block (carry x7 hb)
    obtain ⟨a', b', c', _⟩ := at_block (carry y7 hb)
    exact ⟨a, b, c, a', b', c'⟩
  have KB : Hid (∀ w', Below W7.heap.size W7 w' → Below w.heap.size w w') := fun w' hb => B7.trans (hb.mono B7.size)
  have KP : Hid (∀ w', Below W7.heap.size W7 w' → CQ 0 w' s5 a5 n5 c5 o5 m5 d5 x 512) := fun w' hb => q7.below hb
  clear x7 y7 B7 q7
  by_cases hg : (90 : Int) < (b1 : Int) - (b2 : Int)
  · go_wp2_with fail
    refine wp_region_held_drew (S := fun w' => Below W7.heap.size W7 w') (by kernel_rfl) ((Below.refl _ _).drew) (fun hH => ?_)
    refine wpAnyH_take (i := 0) (v := (.agg #[.bool s, .slice ao n1 ca, .slice bo m1 cb])) rfl (by kernel_rfl) (by kernel_rfl) (by kernel_rfl) (fun _ _ _ h => h) (Or.inl ⟨by kernel_rfl, ?_⟩) hH ?_
    · intro w1 hB
      obtain ⟨j0, j1, j2, j3, j4, j5⟩ := K.out _ hB
      go_simp
    change wpAnyH _ _ _ _ _ _ _ (Act.put _ (some 23) _) _
    try simp only [Act.put, List.setIfInBounds_toArray, List.set_cons_zero, List.set_cons_succ]
    refine wpAnyH_take (i := 4) (v := (.agg #[.bool s, .slice ao n1 ca, .slice bo m1 cb])) rfl (by kernel_rfl) (by kernel_rfl) (by kernel_rfl) (fun _ _ _ h => h) (Or.inl ⟨by kernel_rfl, ?_⟩) hH ?_
    · intro w1 hB
      obtain ⟨j0, j1, j2, j3, j4, j5⟩ := K.out _ hB
      go_simp
    change wpAnyH _ _ _ _ _ _ _ (Act.put _ (some 27) _) _
    try simp only [Act.put, List.setIfInBounds_toArray, List.set_cons_zero, List.set_cons_succ]
    refine wpAnyH_ready (rs := [1]) (by kernel_rfl) (by simp) ?_
    refine AllReadyH.cons rfl (fun K hK => ?_) AllReadyH.nil
    go_simp
    refine (C4.out _ (KB.out _ hH)).mono ?_
    rintro e V1 ⟨s8, a8, n8, c8, o8, m8, d8, rfl, cq8, v1⟩
    have N1 := Lib.hid cq8.upper
    have HSD := Lib.hid cq8.2.2.2.2.2.2
    have hbw : IntKind.i64.wrap ((b1 : Int) - (b2 : Int)) = (b1 : Int) - (b2 : Int) := by
      have h1 := bits_of cq8.2.2.2.2.2.1
      have h2 := bits_of cq8.2.2.2.2.2.2
      rw [← HB1.out] at h1
      rw [← HB2.out] at h2
      exact IntWalk.i64_in _ (by omega)
    clear cq8
    try go_simp
    refine hK.out _ _ (keepB v1 hH (Nat.le_refl _)) (fun hH1 => ?_)
    clear hK K
    try simp only [Act.put, List.setIfInBounds_toArray, List.set_cons_zero, List.set_cons_succ]
    refine wpAnyH_take (i := 2) (v := (.slice a8 n8 c8)) rfl (by kernel_rfl) (by kernel_rfl) (by kernel_rfl) (fun _ _ _ h => h) (Or.inl ⟨by kernel_rfl, ?_⟩) hH1 ?_
    · intro w1 hB
      go_simp
      simp only [field_num, Result.andThen_ok]
    change wpAnyH _ _ _ _ _ _ _ (Act.put _ (some 25) _) _
    try simp only [Act.put, List.setIfInBounds_toArray, List.set_cons_zero, List.set_cons_succ]
    refine wpAnyH_ready (rs := [3]) (by kernel_rfl) (by simp) ?_
    refine AllReadyH.cons rfl (fun K hK => ?_) AllReadyH.nil
    go_simp
    refine (NB.out _ _ _ _ N1.out).mono ?_
    rintro e V3 ⟨rfl, v3⟩
    try go_simp
    refine hK.out _ _ (keepB v3 hH1 (Nat.le_refl _)) (fun hH3 => ?_)
    clear hK K
    try simp only [Act.put, List.setIfInBounds_toArray, List.set_cons_zero, List.set_cons_succ]
    refine wpAnyH_ready (rs := [5]) (by kernel_rfl) (by simp) ?_
    refine AllReadyH.cons rfl (fun K hK => ?_) AllReadyH.nil
    go_simp
    refine (C5.out _ (KB.out _ hH3)).mono ?_
    rintro e V5 ⟨a9, c9, rfl, f9, v5⟩
    have N2 := Lib.hid (Num.of_fr f9 HSD.out)
    clear f9
    try go_simp
    refine hK.out _ _ (keepB v5 hH3 (Nat.le_refl _)) (fun hH5 => ?_)
    clear hK K
    try simp only [Act.put, List.setIfInBounds_toArray, List.set_cons_zero, List.set_cons_succ]
    refine wpAnyH_ready (rs := [6]) (by kernel_rfl) (by simp) ?_
    refine AllReadyH.cons rfl (fun K hK => ?_) AllReadyH.nil
    go_simp
    refine (ND.out _ _ _ _ N2.out).mono ?_
    rintro e V6 ⟨rfl, v6⟩
    try go_simp
    refine hK.out _ _ (keepB v6 hH5 (Nat.le_refl _)) (fun hH6 => ?_)
    clear hK K
    try simp only [Act.put, List.setIfInBounds_toArray, List.set_cons_zero, List.set_cons_succ]
    refine wpAnyH_take (i := 7) (v := (.int .i64 ((b1 : Int) - (b2 : Int)))) rfl (by kernel_rfl) (by kernel_rfl) (by kernel_rfl) (fun _ _ _ h => h) (Or.inl ⟨by kernel_rfl, ?_⟩) hH6 ?_
    · intro w1 hB
      go_simp
    change wpAnyH _ _ _ _ _ _ _ (Act.put _ (some 30) _) _
    try simp only [Act.put, List.setIfInBounds_toArray, List.set_cons_zero, List.set_cons_succ]
    refine wpAnyH_take (i := 8) (v := (.bool true)) rfl (by kernel_rfl) (by kernel_rfl) (by kernel_rfl) (fun _ _ _ h => h) (Or.inl ⟨by kernel_rfl, ?_⟩) hH6 ?_
    · intro w1 hB
      go_simp
    change wpAnyH _ _ _ _ _ _ _ (Act.put _ (some 31) _) _
    try simp only [Act.put, List.setIfInBounds_toArray, List.set_cons_zero, List.set_cons_succ]
    refine wpAnyH_done (by kernel_rfl) ?_ _
    have BV := KB.out _ hH6
    go_wp2_with fail
    refine (AW.out _ BV).mono ?_; rintro e W9 ⟨rfl, b9⟩
    have HB9 := Lib.hid (BV.trans (b9.mono BV.size))
    clear BV b9
    go_wp2_with fail
    go_ret
    exact ⟨rfl, HB9.out⟩
  · obtain ⟨hnc, hxA⟩ := HRD.out (by omega)
    have her0 : er = 0 := by
      rcases HER.out with ⟨h1, h2⟩ | ⟨h1, h2⟩
      · exact absurd h1 hnc
      · exact h2
    have HXA := Lib.hid hxA
    clear hnc hxA HER HRD
    subst her0
    go_wp2_with fail
    refine wp_region_held_drew (S := fun w' => Below W7.heap.size W7 w') (by kernel_rfl) ((Below.refl _ _).drew) (fun hH => ?_)
    refine wpAnyH_take (i := 0) (v := (.agg #[.bool s, .slice ao n1 ca, .slice bo m1 cb])) rfl (by kernel_rfl) (by kernel_rfl) (by kernel_rfl) (fun _ _ _ h => h) (Or.inl ⟨by kernel_rfl, ?_⟩) hH ?_
    · intro w1 hB
      obtain ⟨j0, j1, j2, j3, j4, j5⟩ := K.out _ hB
      go_simp
    change wpAnyH _ _ _ _ _ _ _ (Act.put _ (some 23) _) _
    try simp only [Act.put, List.setIfInBounds_toArray, List.set_cons_zero, List.set_cons_succ]
    refine wpAnyH_take (i := 4) (v := (.agg #[.bool s, .slice ao n1 ca, .slice bo m1 cb])) rfl (by kernel_rfl) (by kernel_rfl) (by kernel_rfl) (fun _ _ _ h => h) (Or.inl ⟨by kernel_rfl, ?_⟩) hH ?_
    · intro w1 hB
      obtain ⟨j0, j1, j2, j3, j4, j5⟩ := K.out _ hB
      go_simp
    change wpAnyH _ _ _ _ _ _ _ (Act.put _ (some 27) _) _
    try simp only [Act.put, List.setIfInBounds_toArray, List.set_cons_zero, List.set_cons_succ]
    refine wpAnyH_ready (rs := [1]) (by kernel_rfl) (by simp) ?_
    refine AllReadyH.cons rfl (fun K hK => ?_) AllReadyH.nil
    go_simp
    refine (C4.out _ (KB.out _ hH)).mono ?_
    rintro e V1 ⟨s8, a8, n8, c8, o8, m8, d8, rfl, cq8, v1⟩
    have N1 := Lib.hid cq8.upper
    have HSD := Lib.hid cq8.2.2.2.2.2.2
    have hbw : IntKind.i64.wrap ((b1 : Int) - (b2 : Int)) = (b1 : Int) - (b2 : Int) := by
      have h1 := bits_of cq8.2.2.2.2.2.1
      have h2 := bits_of cq8.2.2.2.2.2.2
      rw [← HB1.out] at h1
      rw [← HB2.out] at h2
      exact IntWalk.i64_in _ (by omega)
    clear cq8
    try go_simp
    refine hK.out _ _ (keepB v1 hH (Nat.le_refl _)) (fun hH1 => ?_)
    clear hK K
    try simp only [Act.put, List.setIfInBounds_toArray, List.set_cons_zero, List.set_cons_succ]
    refine wpAnyH_take (i := 2) (v := (.slice a8 n8 c8)) rfl (by kernel_rfl) (by kernel_rfl) (by kernel_rfl) (fun _ _ _ h => h) (Or.inl ⟨by kernel_rfl, ?_⟩) hH1 ?_
    · intro w1 hB
      go_simp
      simp only [field_num, Result.andThen_ok]
    change wpAnyH _ _ _ _ _ _ _ (Act.put _ (some 25) _) _
    try simp only [Act.put, List.setIfInBounds_toArray, List.set_cons_zero, List.set_cons_succ]
    refine wpAnyH_ready (rs := [3]) (by kernel_rfl) (by simp) ?_
    refine AllReadyH.cons rfl (fun K hK => ?_) AllReadyH.nil
    go_simp
    refine (NB.out _ _ _ _ N1.out).mono ?_
    rintro e V3 ⟨rfl, v3⟩
    try go_simp
    refine hK.out _ _ (keepB v3 hH1 (Nat.le_refl _)) (fun hH3 => ?_)
    clear hK K
    try simp only [Act.put, List.setIfInBounds_toArray, List.set_cons_zero, List.set_cons_succ]
    refine wpAnyH_ready (rs := [5]) (by kernel_rfl) (by simp) ?_
    refine AllReadyH.cons rfl (fun K hK => ?_) AllReadyH.nil
    go_simp
    refine (C5.out _ (KB.out _ hH3)).mono ?_
    rintro e V5 ⟨a9, c9, rfl, f9, v5⟩
    have N2 := Lib.hid (Num.of_fr f9 HSD.out)
    clear f9
    try go_simp
    refine hK.out _ _ (keepB v5 hH3 (Nat.le_refl _)) (fun hH5 => ?_)
    clear hK K
    try simp only [Act.put, List.setIfInBounds_toArray, List.set_cons_zero, List.set_cons_succ]
    refine wpAnyH_ready (rs := [6]) (by kernel_rfl) (by simp) ?_
    refine AllReadyH.cons rfl (fun K hK => ?_) AllReadyH.nil
    go_simp
    refine (ND.out _ _ _ _ N2.out).mono ?_
    rintro e V6 ⟨rfl, v6⟩
    try go_simp
    refine hK.out _ _ (keepB v6 hH5 (Nat.le_refl _)) (fun hH6 => ?_)
    clear hK K
    try simp only [Act.put, List.setIfInBounds_toArray, List.set_cons_zero, List.set_cons_succ]
    refine wpAnyH_take (i := 7) (v := (.int .i64 ((b1 : Int) - (b2 : Int)))) rfl (by kernel_rfl) (by kernel_rfl) (by kernel_rfl) (fun _ _ _ h => h) (Or.inl ⟨by kernel_rfl, ?_⟩) hH6 ?_
    · intro w1 hB
      go_simp
    change wpAnyH _ _ _ _ _ _ _ (Act.put _ (some 30) _) _
    try simp only [Act.put, List.setIfInBounds_toArray, List.set_cons_zero, List.set_cons_succ]
    refine wpAnyH_take (i := 8) (v := (.bool false)) rfl (by kernel_rfl) (by kernel_rfl) (by kernel_rfl) (fun _ _ _ h => h) (Or.inl ⟨by kernel_rfl, ?_⟩) hH6 ?_
    · intro w1 hB
      go_simp
    change wpAnyH _ _ _ _ _ _ _ (Act.put _ (some 31) _) _
    try simp only [Act.put, List.setIfInBounds_toArray, List.set_cons_zero, List.set_cons_succ]
    refine wpAnyH_done (by kernel_rfl) ?_ _
    have BV := Lib.hid hH6
    clear hbw N1 N2 HSD
    go_wp2_with fail
    refine wp_region_held_drew (S := fun w' => Below V6.heap.size V6 w') (by kernel_rfl) ((Below.refl _ _).drew) (fun hH => ?_)
    refine wpAnyH_take (i := 0) (v := (.int .i64 0)) rfl (by kernel_rfl) (by kernel_rfl) (by kernel_rfl) (fun _ _ _ h => h) (Or.inl ⟨by kernel_rfl, ?_⟩) hH ?_
    · intro w1 hB
      go_simp
    change wpAnyH _ _ _ _ _ _ _ (Act.put _ (some 33) _) _
    try simp only [Act.put, List.setIfInBounds_toArray, List.set_cons_zero, List.set_cons_succ]
    refine wpAnyH_take (i := 1) (v := (.bool true)) rfl (by kernel_rfl) (by kernel_rfl) (by kernel_rfl) (fun _ _ _ h => h) (Or.inl ⟨by kernel_rfl, ?_⟩) hH ?_
    · intro w1 hB
      go_simp
    change wpAnyH _ _ _ _ _ _ _ (Act.put _ (some 34) _) _
    try simp only [Act.put, List.setIfInBounds_toArray, List.set_cons_zero, List.set_cons_succ]
    refine wpAnyH_take (i := 2) (v := (.bool true)) rfl (by kernel_rfl) (by kernel_rfl) (by kernel_rfl) (fun _ _ _ h => h) (Or.inl ⟨by kernel_rfl, ?_⟩) hH ?_
    · intro w1 hB
      go_simp
    change wpAnyH _ _ _ _ _ _ _ (Act.put _ (some 35) _) _
    try simp only [Act.put, List.setIfInBounds_toArray, List.set_cons_zero, List.set_cons_succ]
    refine wpAnyH_take (i := 3) (v := (.agg #[.bool s5, .slice a5 n5 c5, .slice o5 m5 d5])) rfl (by kernel_rfl) (by kernel_rfl) (by kernel_rfl) (fun _ _ _ h => h) (Or.inl ⟨by kernel_rfl, ?_⟩) hH ?_
    · intro w1 hB
      obtain ⟨j0, j1, j2, j3, j4, j5⟩ := K.out _ (keepB hB BV.out (Nat.le_refl _))
      go_simp
    change wpAnyH _ _ _ _ _ _ _ (Act.put _ (some 36) _) _
    try simp only [Act.put, List.setIfInBounds_toArray, List.set_cons_zero, List.set_cons_succ]
    refine wpAnyH_take (i := 4) (v := (.agg #[.bool s, .slice ao n1 ca, .slice bo m1 cb])) rfl (by kernel_rfl) (by kernel_rfl) (by kernel_rfl) (fun _ _ _ h => h) (Or.inl ⟨by kernel_rfl, ?_⟩) hH ?_
    · intro w1 hB
      obtain ⟨j0, j1, j2, j3, j4, j5⟩ := K.out _ (keepB hB BV.out (Nat.le_refl _))
      go_simp
    change wpAnyH _ _ _ _ _ _ _ (Act.put _ (some 37) _) _
    try simp only [Act.put, List.setIfInBounds_toArray, List.set_cons_zero, List.set_cons_succ]
    refine wpAnyH_take (i := 5) (v := (.int .i64 i)) rfl (by kernel_rfl) (by kernel_rfl) (by kernel_rfl) (fun _ _ _ h => h) (Or.inl ⟨by kernel_rfl, ?_⟩) hH ?_
    · intro w1 hB
      go_simp
    change wpAnyH _ _ _ _ _ _ _ (Act.put _ (some 38) _) _
    try simp only [Act.put, List.setIfInBounds_toArray, List.set_cons_zero, List.set_cons_succ]
    refine wpAnyH_ready (rs := [6]) (by kernel_rfl) (by simp) ?_
    refine AllReadyH.cons rfl (fun K hK => ?_) AllReadyH.nil
    go_simp
    refine (C6.out _ (KB.out _ (keepB hH BV.out (Nat.le_refl _)))).mono ?_
    rintro e V6 ⟨s9, a9, n9, c9, o9, m9, d9, rfl, cq9, v6⟩
    try go_simp
    refine hK.out _ _ (keepB v6 hH (Nat.le_refl _)) (fun hH6 => ?_)
    clear hK K
    try simp only [Act.put, List.setIfInBounds_toArray, List.set_cons_zero, List.set_cons_succ]
    refine wpAnyH_ready (rs := [7]) (by kernel_rfl) (by simp) ?_
    refine AllReadyH.cons rfl (fun K hK => ?_) AllReadyH.nil
    go_simp
    refine (Same_q (KP.out _ (keepB hH6 BV.out (Nat.le_refl _))) cq9 HXA.out).mono ?_
    rintro e V7 ⟨rfl, v7⟩
    try go_simp
    refine hK.out _ _ (keepB v7 hH6 (Nat.le_refl _)) (fun hH7 => ?_)
    clear hK K
    try simp only [Act.put, List.setIfInBounds_toArray, List.set_cons_zero, List.set_cons_succ]
    refine wpAnyH_take (i := 8) (v := (.bool true)) rfl (by kernel_rfl) (by kernel_rfl) (by kernel_rfl) (fun _ _ _ h => h) (Or.inl ⟨by kernel_rfl, ?_⟩) hH7 ?_
    · intro w1 hB
      go_simp
    change wpAnyH _ _ _ _ _ _ _ (Act.put _ (some 41) _) _
    try simp only [Act.put, List.setIfInBounds_toArray, List.set_cons_zero, List.set_cons_succ]
    refine wpAnyH_take (i := 9) (v := (.bool true)) rfl (by kernel_rfl) (by kernel_rfl) (by kernel_rfl) (fun _ _ _ h => h) (Or.inl ⟨by kernel_rfl, ?_⟩) hH7 ?_
    · intro w1 hB
      go_simp
    change wpAnyH _ _ _ _ _ _ _ (Act.put _ (some 42) _) _
    try simp only [Act.put, List.setIfInBounds_toArray, List.set_cons_zero, List.set_cons_succ]
    refine wpAnyH_ready (rs := [10]) (by kernel_rfl) (by simp) ?_
    refine AllReadyH.cons rfl (fun K hK => ?_) AllReadyH.nil
    go_simp
    refine (AW.out _ (KB.out _ (keepB hH7 BV.out (Nat.le_refl _)))).mono ?_
    rintro e V10 ⟨rfl, v10⟩
    try go_simp
    refine hK.out _ _ (keepB v10 hH7 (Nat.le_refl _)) (fun hH10 => ?_)
    clear hK K
    try simp only [Act.put, List.setIfInBounds_toArray, List.set_cons_zero, List.set_cons_succ]
    refine wpAnyH_take (i := 11) (v := (.bool true)) rfl (by kernel_rfl) (by kernel_rfl) (by kernel_rfl) (fun _ _ _ h => h) (Or.inl ⟨by kernel_rfl, ?_⟩) hH10 ?_
    · intro w1 hB
      go_simp
    change wpAnyH _ _ _ _ _ _ _ (Act.put _ (some 44) _) _
    try simp only [Act.put, List.setIfInBounds_toArray, List.set_cons_zero, List.set_cons_succ]
    refine wpAnyH_take (i := 12) (v := (.bool true)) rfl (by kernel_rfl) (by kernel_rfl) (by kernel_rfl) (fun _ _ _ h => h) (Or.inl ⟨by kernel_rfl, ?_⟩) hH10 ?_
    · intro w1 hB
      go_simp
    change wpAnyH _ _ _ _ _ _ _ (Act.put _ (some 4) _) _
    try simp only [Act.put, List.setIfInBounds_toArray, List.set_cons_zero, List.set_cons_succ]
    refine wpAnyH_done (by kernel_rfl) ?_ _
    have BW := KB.out _ (keepB hH10 BV.out (Nat.le_refl _))
    go_wp2_with fail
    go_ret
    exact ⟨rfl, BW⟩
end Go.Proofs.YtjijnngblhddkaaGreatDoor
