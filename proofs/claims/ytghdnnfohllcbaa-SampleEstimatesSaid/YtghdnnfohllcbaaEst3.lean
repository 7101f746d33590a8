import Derived.Test.YtghdnnfohllcbaaEstA
import Derived.Test.YtghdnnfohllcbaaBoxA
/- The reference's Estimate: the sum of the values over their probabilities, or the error. -/
namespace Go.Proofs.Ytghdnnfohllcbaa
open Go.RowKit

set_option maxHeartbeats 16000000 in
set_option maxRecDepth 100000 in
theorem rEstimate_v (qs ps : List Rat) (ao bo : Option Addr) (ca cb : Nat) (us vs : List RV) (w : World) (hu : RdR w ao ca us) (hv : RdR w bo cb vs) (hq : Ls w us qs 2) (hp : Ls w vs ps 2) (hl : us.length ≤ 8) (hl2 : vs.length ≤ 8) :
    Calls Try.prog 31 #[.slice ao us.length ca, .slice bo vs.length cb] w (EstPost (estE qs ps) (estQ qs ps) w) := by
  obtain ⟨i0, hi, hz0, hz1, hz2⟩ := info_partsr infoRatio
  obtain ⟨n, hn⟩ : ∃ n, n = us.length := ⟨_, rfl⟩
  obtain ⟨m, hm⟩ : ∃ m, m = vs.length := ⟨_, rfl⟩
  have a1 := hu.1
  have a2 := hu.2.1
  have c1 := hv.1
  have c2 := hv.2.1
  rw [← hn] at a1 hl ⊢
  rw [← hm] at c1 hl2 ⊢
  have HU := Lib.hid hu
  have HV := Lib.hid hv
  have HN := Lib.hid hn
  have HM := Lib.hid hm
  have hlq : Hid (qs.length = n) := by unfold Hid; rw [hn, hq.1]
  have hlp : Hid (ps.length = m) := by unfold Hid; rw [hm, hp.1]
  have HQ := Lib.hid hq
  have HP := Lib.hid hp
  clear hu hv hq hp hn hm
  obtain ⟨W1, hW1, hB1, hX1, hs1⟩ := boxR w
  have x1 : Hid (W1.heap[w.heap.size]? = some (.cells #[.bool false, .slice none 0 0, .slice none 0 0] 33 (0, 0))) := by rw [hW1]; exact heap_alloc_new _ _
  have B1 := Lib.hid hB1
  have S1 := Lib.hid hs1
  clear hB1 hX1 hs1
  by_cases hbad : n = 0 ∨ n ≠ m
  · obtain ⟨hE, hQ0⟩ := est_list (qs := qs) (ps := ps) (by rw [hlq.out, hlp.out]; exact hbad)
    rw [hE, hQ0]
    obtain ⟨q0, q1, q2, z0, z1, z2⟩ := at_block x1.out
    have fin : Hid (EstPost 104 0 w (.returned (.tuple #[.agg #[.bool false, .slice none 0 0, .slice none 0 0], .int .i64 104])) W1) := ⟨2, _, _, _, _, _, _, _, rfl, cq_zero _ _ 2 (by omega) (by omega), B1.out⟩
    clear hE hQ0 HU HV HN HM hlq hlp HQ HP B1 S1
    by_cases h0 : n = 0
    · subst h0
      clear hbad
      go_enter Try.func31, Try.ntmps31
      go_wp2_with fail
      rw [← hW1]
      clear hW1
      go_wp2_with fail
      refine bodyPost_ret (v := .tuple #[.agg #[.bool false, .slice none 0 0, .slice none 0 0], .int .i64 104]) (by simp [results, Try.results31, go_sem, q0, q1, q2]) rfl ?_
      exact fin.out
    · have hne : n ≠ m := by omega
      have h1 : 1 ≤ n := by omega
      have hnz : ((n : Int) == 0) = false := beq_eq_false_iff_ne.2 (by omega)
      have hnm : ((n : Int) != (m : Int)) = true := bne_iff_ne.2 (by omega)
      have h200 : decide ((200 : Int) < (n : Int)) = false := decide_eq_false (by omega)
      clear hbad h0
      go_enter Try.func31, Try.ntmps31
      go_wp2_with fail
      rw [← hW1]
      clear hW1
      go_wp2_with fail
      refine bodyPost_ret (v := .tuple #[.agg #[.bool false, .slice none 0 0, .slice none 0 0], .int .i64 104]) (by simp [results, Try.results31, go_sem, q0, q1, q2]) rfl ?_
      exact fin.out
  · have h1 : 1 ≤ n := by omega
    obtain rfl : n = m := by omega
    have hnz : ((n : Int) == 0) = false := beq_eq_false_iff_ne.2 (by omega)
    have hlt1 : decide ((n : Int) < 1) = false := decide_eq_false (by omega)
    have h200 : decide ((200 : Int) < (n : Int)) = false := decide_eq_false (by omega)
    have G0 : Hid (∀ i, i < n → goodp (ps.getD i 0) = false → estE qs ps = 105 ∧ estQ qs ps = 0) := fun i hi hb => est_bad (by rw [hlq.out]; exact h1) (by rw [hlq.out, hlp.out]) (by rw [hlp.out]; exact hi) hb
    have G1 : Hid ((∀ i, i < n → goodp (ps.getD i 0) = true) → estE qs ps = 0 ∧ estQ qs ps = qsum (estL qs ps)) := fun h => est_good (by rw [hlq.out]; exact h1) (by rw [hlq.out, hlp.out]) (fun i hi => h i (by rw [← hlp.out]; exact hi))
    have ET : Hid (∀ i, i < n → (estL qs ps).take (i + 1) = (estL qs ps).take i ++ [qs.getD i 0 / ps.getD i 0]) := fun i hi => estL_take (by rw [hlq.out, hlp.out]) (by rw [hlp.out]; exact hi)
    have EA : Hid ((estL qs ps).take n = estL qs ps) := by unfold Hid; rw [List.take_of_length_le]; rw [estL_len (by rw [hlq.out, hlp.out]), hlp.out]; exact Nat.le_refl _
    have EZ : Hid (∀ i, i < n → qsum ((estL qs ps).take (i + 1)) = qsum ((estL qs ps).take i) + qs.getD i 0 / ps.getD i 0) := fun i hi => by rw [ET.out i hi, qsum_snoc]
    clear hbad hlq hlp
    obtain ⟨W2, hW2⟩ : ∃ W, W = W1.alloc (.cells #[.bool false, .slice none 0 0, .slice none 0 0] 33) := ⟨_, rfl⟩
    obtain ⟨g, hg⟩ : ∃ g, g = w.heap.size + 1 := ⟨_, rfl⟩
    have b2 : Below W1.heap.size W1 W2 := by rw [hW2]; exact below_new _ _
    have x2 : Hid (W2.heap[g]? = some (.cells #[.bool false, .slice none 0 0, .slice none 0 0] 33 (0, 0))) := by rw [hW2, hg, ← S1.out]; exact heap_alloc_new _ _
    have S2 : Hid (W2.heap.size = g + 1) := by unfold Hid; rw [hW2, hg, ← S1.out]; exact World.size_alloc _ _
    have X2 := Lib.hid (carry x1.out b2)
    have HB2 : Hid (Below w.heap.size w W2) := B1.out.trans (b2.mono B1.out.size)
    have HT : Hid (TotAt W2 g 0 5) := ⟨_, _, _, _, _, _, _, x2.out, cq_zero _ _ 5 (by omega) (by omega)⟩
    have hgw : w.heap.size < g := by have := S1.out; omega
    clear b2 x1 B1 S1 x2
    go_enter Try.func31, Try.ntmps31
    go_upto_region 4 with fail
    rw [← hg, ← hW1, ← hW2]
    clear hW1 hW2 hg
    go_wp2_with fail
    go_loopw [30] (fun s30 wr => ∃ i : Nat, i ≤ n ∧ s30 = .int .i64 (i : Int) ∧ Hid (TotAt wr g (qsum ((estL qs ps).take i)) (kq 5 i)) ∧ Hid (∀ j, j < i → goodp (ps.getD j 0) = true) ∧ Hid (∀ B, B ≤ g → Below B W2 wr)) (fun s30 _ => n - (intOf s30).toNat)
    case atStart => exact ⟨0, by omega, rfl, by rw [kq_zero]; exact HT.out, (show ∀ j, j < 0 → _ from fun j hj => by omega), fun _ _ => Below.refl _ _⟩
    case round =>
      obtain ⟨i, hin, rfl, htot, hgd, hfr⟩ := hrel
      have hg0 : w.heap.size ≤ g := by omega
      have HBW : Hid (Below w.heap.size w wr) := HB2.out.trans (hfr.out _ hg0)
      have hX2 : Hid (wr.heap[w.heap.size]? = some (.cells #[.bool false, .slice none 0 0, .slice none 0 0] 33 (0, 0))) := ((hfr.out g (Nat.le_refl _)).block w.heap.size hgw).trans X2.out
      obtain ⟨s, a, k, c, o', m', d, x0, cq0⟩ := htot.out
      by_cases hlt : i < n
      · have hlt2 : (i : Int) < (n : Int) := by omega
        obtain ⟨pb, po, rfl, hpt⟩ := (HV.out.below HBW.out).at (by rw [← HM.out]; omega)
        obtain ⟨b, o, rfl, hut⟩ := (HU.out.below HBW.out).at (by rw [← HN.out]; omega)
        obtain ⟨r, hre⟩ : ∃ r, r = us.getD i RV.nil := ⟨_, rfl⟩
        obtain ⟨p, hpe⟩ : ∃ p, p = vs.getD i RV.nil := ⟨_, rfl⟩
        have HUT := hut i (by rw [← HN.out]; omega)
        obtain ⟨c0, c1', c2''⟩ := hpt i (by rw [← HM.out]; omega)
        rw [← hre] at HUT
        rw [← hpe] at c0 c1' c2''
        obtain ⟨X, hX⟩ : ∃ x, x = qs.getD i 0 := ⟨_, rfl⟩
        obtain ⟨Y, hY⟩ : ∃ x, x = ps.getD i 0 := ⟨_, rfl⟩
        have iU : IsK wr r X 2 := by rw [hre, hX]; exact (HQ.out.2 i (by rw [← HN.out]; omega)).below HBW.out
        have iP : IsK wr p Y 2 := by rw [hpe, hY]; exact (HP.out.2 i (by rw [← HM.out]; omega)).below HBW.out
        have G0' : Hid (goodp Y = false → estE qs ps = 105 ∧ estQ qs ps = 0) := by rw [hY]; exact G0.out i hlt
        have EZ' : Hid (qsum ((estL qs ps).take (i + 1)) = qsum ((estL qs ps).take i) + X / Y) := by rw [hX, hY]; exact EZ.out i hlt
        have GG : Hid (goodp Y = true → ∀ j, j < i + 1 → goodp (ps.getD j 0) = true) := fun h j hj => by
          by_cases e : j = i
          · rw [e, ← hY]; exact h
          · exact hgd.out j (by omega)
        clear hre hpe hX hY hpt hut hgd htot
        obtain ⟨W5, hW5⟩ : ∃ W, W = wr.alloc (.cells #[.bool p.s, .slice p.ao p.n p.ca, .slice p.bo p.m p.cb] 33) := ⟨_, rfl⟩
        obtain ⟨g5, hg5⟩ : ∃ g, g = wr.heap.size := ⟨_, rfl⟩
        have b5 : Below wr.heap.size wr W5 := by rw [hW5]; exact below_new _ _
        have x5 : Hid (W5.heap[g5]? = some (.cells #[.bool p.s, .slice p.ao p.n p.ca, .slice p.bo p.m p.cb] 33 (0, 0))) := by rw [hW5, hg5]; exact heap_alloc_new _ _
        have hx5 := Lib.hid (carry x0 b5)
        have hX5 := Lib.hid (carry hX2.out b5)
        have hU5 := Lib.hid (HUT.below b5)
        have kU := Lib.hid (iU.below b5)
        have kP := Lib.hid (iP.below b5)
        have kT := Lib.hid (cq0.below b5)
        have hgr : g < wr.heap.size := (Array.getElem?_eq_some_iff.1 x0).1
        have HF5 : Hid (∀ B, B ≤ g → Below B W2 W5) := fun B hB => (hfr.out B hB).trans (b5.mono (by omega))
        have HBW5 : Hid (Below w.heap.size w W5) := HBW.out.trans (b5.mono HBW.out.size)
        have hg5s : g < W5.heap.size := Nat.lt_of_lt_of_le hgr b5.size
        have SG : Hid (∀ w', Below W5.heap.size W5 w' → Calls Try.prog 50 #[.agg #[.bool p.s, .slice p.ao p.n p.ca, .slice p.bo p.m p.cb]] w' fun e w2 => e = .returned (.int .i64 (sgn Y)) ∧ Below w'.heap.size w' w2) := fun w' hb => rSign_q _ _ _ _ _ _ _ 2 Y w' (kP.out.below hb)
        have ON : Hid (∀ w', Calls Try.prog 23 #[] w' (MakesQ 1 2 w')) := fun w' => rOne_q w'
        have CM : Hid (∀ w', Below W5.heap.size W5 w' → ∀ t po n' ca' qo l cb', RQ w' t po n' ca' qo l cb' 1 2 → Calls Try.prog 22 #[.agg #[.bool p.s, .slice p.ao p.n p.ca, .slice p.bo p.m p.cb], .agg #[.bool t, .slice po n' ca', .slice qo l cb']] w' fun e w2 => e = .returned (.int .i64 (cq Y 1)) ∧ Below w'.heap.size w' w2) := fun w' hb t po n' ca' qo l cb' h1 => rCompare_q _ _ _ _ _ _ _ _ _ _ _ _ _ _ 2 Y 1 w' (kP.out.below hb) h1 (by omega)
        have KP5 : Hid (∀ w', Below W5.heap.size W5 w' → w'.cell? ⟨g5, 0, none⟩ = some (.bool p.s) ∧ w'.cell? ⟨g5, 1, none⟩ = some (.slice p.ao p.n p.ca) ∧ w'.cell? ⟨g5, 2, none⟩ = some (.slice p.bo p.m p.cb)) := fun w' hb => by
          obtain ⟨k0, k1, k2, _⟩ := at_block (carry x5.out hb)
          exact ⟨k0, k1, k2⟩
        clear HUT iU iP b5 hfr HBW x0 cq0 hX2
        go_upto_region 7 with fail
        rw [← hW5]
        try rw [← hg5]
        clear hW5 hg5 c0 c1' c2''
        obtain ⟨S, hS⟩ : ∃ S, S = sgn Y := ⟨_, rfl⟩
        obtain ⟨C, hC⟩ : ∃ C, C = cq Y 1 := ⟨_, rfl⟩
        have hSb : -1 ≤ S ∧ S ≤ 1 := by rw [hS]; exact sgn_mag Y
        have hCb : -1 ≤ C ∧ C ≤ 1 := by rw [hC]; exact cq_mag Y 1
        have GY : Hid (goodp Y = (decide (0 < S) && decide (C ≤ 0))) := by unfold Hid goodp; rw [hS, hC]
        unfold Hid at SG CM
        rw [← hS] at SG
        rw [← hC] at CM
        have SG := Lib.hid SG
        have CM := Lib.hid CM
        clear hS hC
        by_cases hs : S ≤ 0
        · have fin := Lib.hid (G0'.out (by rw [GY.out]; simp; omega))
          refine wp_region_held_drew (S := fun w' => Below W5.heap.size W5 w') (by kernel_rfl) ((Below.refl _ _).drew) (fun hH => ?_)
          refine wpAnyH_take (i := 0) (v := (.agg #[.bool p.s, .slice p.ao p.n p.ca, .slice p.bo p.m p.cb])) rfl (by kernel_rfl) (by kernel_rfl) (by kernel_rfl) (fun _ _ _ h => h) (Or.inl ⟨by kernel_rfl, ?_⟩) hH ?_
          · intro w1 hB
            obtain ⟨k0, k1, k2⟩ := KP5.out w1 hB
            go_simp
          change wpAnyH _ _ _ _ _ _ _ (Act.put _ (some 35) _) _
          try simp only [Act.put, List.setIfInBounds_toArray, List.set_cons_zero, List.set_cons_succ]
          refine wpAnyH_ready (rs := [1]) (by kernel_rfl) (by simp) ?_
          refine AllReadyH.cons rfl (fun K hK => ?_) AllReadyH.nil
          go_simp
          refine (SG.out _ hH).mono ?_
          rintro e V1 ⟨rfl, v1⟩
          try go_simp
          refine hK.out _ _ (keepB v1 hH (Nat.le_refl _)) (fun hH1 => ?_)
          clear hK K
          try simp only [Act.put, List.setIfInBounds_toArray, List.set_cons_zero, List.set_cons_succ]
          refine wpAnyH_take (i := 2) (v := (.bool true)) rfl (by kernel_rfl) (by kernel_rfl) (by kernel_rfl) (fun _ _ _ h => h) (Or.inl ⟨by kernel_rfl, ?_⟩) hH1 ?_
          · intro w1 hB
            go_simp
          change wpAnyH _ _ _ _ _ _ _ (Act.put _ (some 37) _) _
          try simp only [Act.put, List.setIfInBounds_toArray, List.set_cons_zero, List.set_cons_succ]
          refine wpAnyH_take (i := 3) (v := (.bool true)) rfl (by kernel_rfl) (by kernel_rfl) (by kernel_rfl) (fun _ _ _ h => h) (Or.inl ⟨by kernel_rfl, ?_⟩) hH1 ?_
          · intro w1 hB
            go_simp
          change wpAnyH _ _ _ _ _ _ _ (Act.put _ (some 38) _) _
          try simp only [Act.put, List.setIfInBounds_toArray, List.set_cons_zero, List.set_cons_succ]
          refine wpAnyH_take (i := 4) (v := undef) rfl (by kernel_rfl) (by kernel_rfl) (by kernel_rfl) (fun _ _ _ h => h) (Or.inr ⟨by kernel_rfl, rfl⟩) hH1 ?_
          change wpAnyH _ _ _ _ _ _ _ (Act.put _ (some 39) _) _
          try simp only [Act.put, List.setIfInBounds_toArray, List.set_cons_zero, List.set_cons_succ]
          refine wpAnyH_take (i := 5) (v := undef) rfl (by kernel_rfl) (by kernel_rfl) (by kernel_rfl) (fun _ _ _ h => h) (Or.inr ⟨by kernel_rfl, rfl⟩) hH1 ?_
          change wpAnyH _ _ _ _ _ _ _ (Act.put _ (some 40) _) _
          try simp only [Act.put, List.setIfInBounds_toArray, List.set_cons_zero, List.set_cons_succ]
          refine wpAnyH_take (i := 6) (v := undef) rfl (by kernel_rfl) (by kernel_rfl) (by kernel_rfl) (fun _ _ _ h => h) (Or.inr ⟨by kernel_rfl, rfl⟩) hH1 ?_
          change wpAnyH _ _ _ _ _ _ _ (Act.put _ (some 41) _) _
          try simp only [Act.put, List.setIfInBounds_toArray, List.set_cons_zero, List.set_cons_succ]
          refine wpAnyH_take (i := 7) (v := undef) rfl (by kernel_rfl) (by kernel_rfl) (by kernel_rfl) (fun _ _ _ h => h) (Or.inr ⟨by kernel_rfl, rfl⟩) hH1 ?_
          change wpAnyH _ _ _ _ _ _ _ (Act.put _ (some 42) _) _
          try simp only [Act.put, List.setIfInBounds_toArray, List.set_cons_zero, List.set_cons_succ]
          refine wpAnyH_take (i := 8) (v := (.bool true)) rfl (by kernel_rfl) (by kernel_rfl) (by kernel_rfl) (fun _ _ _ h => h) (Or.inl ⟨by kernel_rfl, ?_⟩) hH1 ?_
          · intro w1 hB
            go_simp
          change wpAnyH _ _ _ _ _ _ _ (Act.put _ (some 43) _) _
          try simp only [Act.put, List.setIfInBounds_toArray, List.set_cons_zero, List.set_cons_succ]
          refine wpAnyH_done (by kernel_rfl) ?_ _
          have b6 : Below W5.heap.size W5 _ := hH1
          obtain ⟨t0, t1, t2, y0, y1, y2⟩ := at_block (carry hX5.out b6)
          have HB6 := Lib.hid (HBW5.out.trans (b6.mono HBW5.out.size))
          clear b6
          go_wp2_with fail
          refine bodyPost_ret (v := .tuple #[.agg #[.bool false, .slice none 0 0, .slice none 0 0], .int .i64 105]) (by simp [results, Try.results31, go_sem, t0, t1, t2]) rfl ?_
          rw [fin.out.1, fin.out.2]; exact ⟨2, _, _, _, _, _, _, _, rfl, cq_zero _ _ 2 (by omega) (by omega), by first | exact HB6.out | exact below3 HB6.out (Nat.le_refl _) _ _ _⟩
        · have hs2 : 0 < S := by omega
          by_cases hc : C ≤ 0
          · have hgY : Hid (goodp Y = true) := by unfold Hid; rw [GY.out]; simp; omega
            have hY0 := good_ne hgY.out
            have HGG := Lib.hid (GG.out hgY.out)
            refine wp_region_held_drew (S := fun w' => Below W5.heap.size W5 w') (by kernel_rfl) ((Below.refl _ _).drew) (fun hH => ?_)
            refine wpAnyH_take (i := 0) (v := (.agg #[.bool p.s, .slice p.ao p.n p.ca, .slice p.bo p.m p.cb])) rfl (by kernel_rfl) (by kernel_rfl) (by kernel_rfl) (fun _ _ _ h => h) (Or.inl ⟨by kernel_rfl, ?_⟩) hH ?_
            · intro w1 hB
              obtain ⟨k0, k1, k2⟩ := KP5.out w1 hB
              go_simp
            change wpAnyH _ _ _ _ _ _ _ (Act.put _ (some 35) _) _
            try simp only [Act.put, List.setIfInBounds_toArray, List.set_cons_zero, List.set_cons_succ]
            refine wpAnyH_ready (rs := [1]) (by kernel_rfl) (by simp) ?_
            refine AllReadyH.cons rfl (fun K hK => ?_) AllReadyH.nil
            go_simp
            refine (SG.out _ hH).mono ?_
            rintro e V1 ⟨rfl, v1⟩
            try go_simp
            refine hK.out _ _ (keepB v1 hH (Nat.le_refl _)) (fun hH1 => ?_)
            clear hK K
            try simp only [Act.put, List.setIfInBounds_toArray, List.set_cons_zero, List.set_cons_succ]
            refine wpAnyH_take (i := 2) (v := (.bool false)) rfl (by kernel_rfl) (by kernel_rfl) (by kernel_rfl) (fun _ _ _ h => h) (Or.inl ⟨by kernel_rfl, ?_⟩) hH1 ?_
            · intro w1 hB
              go_simp
            change wpAnyH _ _ _ _ _ _ _ (Act.put _ (some 37) _) _
            try simp only [Act.put, List.setIfInBounds_toArray, List.set_cons_zero, List.set_cons_succ]
            refine wpAnyH_take (i := 3) (v := (.bool false)) rfl (by kernel_rfl) (by kernel_rfl) (by kernel_rfl) (fun _ _ _ h => h) (Or.inl ⟨by kernel_rfl, ?_⟩) hH1 ?_
            · intro w1 hB
              go_simp
            change wpAnyH _ _ _ _ _ _ _ (Act.put _ (some 38) _) _
            try simp only [Act.put, List.setIfInBounds_toArray, List.set_cons_zero, List.set_cons_succ]
            refine wpAnyH_take (i := 4) (v := (.agg #[.bool p.s, .slice p.ao p.n p.ca, .slice p.bo p.m p.cb])) rfl (by kernel_rfl) (by kernel_rfl) (by kernel_rfl) (fun _ _ _ h => h) (Or.inl ⟨by kernel_rfl, ?_⟩) hH1 ?_
            · intro w1 hB
              obtain ⟨k0, k1, k2⟩ := KP5.out w1 hB
              go_simp
            change wpAnyH _ _ _ _ _ _ _ (Act.put _ (some 39) _) _
            try simp only [Act.put, List.setIfInBounds_toArray, List.set_cons_zero, List.set_cons_succ]
            refine wpAnyH_ready (rs := [5]) (by kernel_rfl) (by simp) ?_
            refine AllReadyH.cons rfl (fun K hK => ?_) AllReadyH.nil
            go_simp
            refine (ON.out _).mono ?_
            rintro e V5 ⟨s5, a5, n5, c5, o5, m5, d5, rfl, cq5, v5⟩
            try go_simp
            refine hK.out _ _ (keepB v5 hH1 (Nat.le_refl _)) (fun hH5 => ?_)
            clear hK K
            try simp only [Act.put, List.setIfInBounds_toArray, List.set_cons_zero, List.set_cons_succ]
            refine wpAnyH_ready (rs := [6]) (by kernel_rfl) (by simp) ?_
            refine AllReadyH.cons rfl (fun K hK => ?_) AllReadyH.nil
            go_simp
            refine (CM.out _ hH5 s5 a5 n5 c5 o5 m5 d5 cq5.rq).mono ?_
            rintro e V6 ⟨rfl, v6⟩
            try go_simp
            refine hK.out _ _ (keepB v6 hH5 (Nat.le_refl _)) (fun hH6 => ?_)
            clear hK K
            try simp only [Act.put, List.setIfInBounds_toArray, List.set_cons_zero, List.set_cons_succ]
            refine wpAnyH_take (i := 7) (v := (.bool false)) rfl (by kernel_rfl) (by kernel_rfl) (by kernel_rfl) (fun _ _ _ h => h) (Or.inl ⟨by kernel_rfl, ?_⟩) hH6 ?_
            · intro w1 hB
              go_simp
            change wpAnyH _ _ _ _ _ _ _ (Act.put _ (some 42) _) _
            try simp only [Act.put, List.setIfInBounds_toArray, List.set_cons_zero, List.set_cons_succ]
            refine wpAnyH_take (i := 8) (v := (.bool false)) rfl (by kernel_rfl) (by kernel_rfl) (by kernel_rfl) (fun _ _ _ h => h) (Or.inl ⟨by kernel_rfl, ?_⟩) hH6 ?_
            · intro w1 hB
              go_simp
            change wpAnyH _ _ _ _ _ _ _ (Act.put _ (some 43) _) _
            try simp only [Act.put, List.setIfInBounds_toArray, List.set_cons_zero, List.set_cons_succ]
            refine wpAnyH_done (by kernel_rfl) ?_ _
            have g6' : Below W5.heap.size W5 V6 := hH6
            obtain ⟨W6, hW6⟩ : ∃ W, W = V6 := ⟨_, rfl⟩
            have g6 : Below W5.heap.size W5 W6 := by rw [hW6]; exact g6'
            rw [← hW6]
            clear g6' hW6
            have QU : Hid (∀ w', Below W6.heap.size W6 w' → Calls Try.prog 18 #[.agg #[.bool r.s, .slice r.ao r.n r.ca, .slice r.bo r.m r.cb], .agg #[.bool p.s, .slice p.ao p.n p.ca, .slice p.bo p.m p.cb]] w' (MakesE (X / Y) 5 w')) := fun w' hb => rQuo_q _ _ _ _ _ _ _ _ _ _ _ _ _ _ 2 X Y w' ((kU.out.below g6).below hb) ((kP.out.below g6).below hb) (by omega) hY0
            have KU : Hid (∀ w', Below W6.heap.size W6 w' → At3 w' b (o + i * 3) r) := fun w' hb => (hU5.out.below g6).below hb
            have KP : Hid (∀ w', Below W6.heap.size W6 w' → w'.cell? ⟨g5, 0, none⟩ = some (.bool p.s) ∧ w'.cell? ⟨g5, 1, none⟩ = some (.slice p.ao p.n p.ca) ∧ w'.cell? ⟨g5, 2, none⟩ = some (.slice p.bo p.m p.cb)) := fun w' hb => KP5.out _ (g6.trans (hb.mono g6.size))
            have hx6 := Lib.hid (carry hx5.out g6)
            have kT6 := Lib.hid (kT.out.below g6)
            have HF6 : Hid (∀ B, B ≤ g → Below B W2 W6) := fun B hB => (HF5.out B hB).trans (g6.mono (by omega))
            have hg6s : g < W6.heap.size := Nat.lt_of_lt_of_le hg5s g6.size
            clear g6 x5 hx5 hX5 hU5 kU kP kT HF5 HBW5 SG CM ON GY G0' hgY KP5 hg5s
            go_upto_region 9 with fail
            go_cut [9, 10] from 45 to 54 (fun vb ve wx => ve = .int .i64 0 ∧ BoxQ W6 (X / Y) 5 vb wx)
            case first =>
              refine wp_region_any (by kernel_rfl) ?_
              refine region_ssa [46, 47, 48, 49, 50, 51, 45, 52, 53, 9, 10] (Below W6.heap.size W6) (ExtT 33 W6.heap.size) (LsP [kV (.slice (some ⟨b, o, none⟩) n ca), kV (.int .i64 (i : Int)), kV (.pointer (some ⟨b, o + i * 3, none⟩)), kV (.agg #[.bool r.s, .slice r.ao r.n r.ca, .slice r.bo r.m r.cb]), kV (.agg #[.bool p.s, .slice p.ao p.n p.ca, .slice p.bo p.m p.cb]), kE (0) (X / Y) (5), kE (0) (X / Y) (5), kQ (X / Y) (5), kV (.int .i64 0), kBox 33 W6.heap.size, kAny, kV (.int .i64 0)]) (OneX 33 10 9 52) (fun f => rfl) (by kernel_rfl) (by kernel_rfl) ?_ ?_ ?_ ?_ (AllFrom.below (n := 12) ?_) ?_
              · exact (Below.refl _ _).drew
              · intro f h; cases h
              · intro jx vx w1 w2 _ h hE; exact LsP.ext (StTL.all (l := [kV (.slice (some ⟨b, o, none⟩) n ca), kV (.int .i64 (i : Int)), kV (.pointer (some ⟨b, o + i * 3, none⟩)), kV (.agg #[.bool r.s, .slice r.ao r.n r.ca, .slice r.bo r.m r.cb]), kV (.agg #[.bool p.s, .slice p.ao p.n p.ca, .slice p.bo p.m p.cb]), kE (0) (X / Y) (5), kE (0) (X / Y) (5), kQ (X / Y) (5), kV (.int .i64 0), kBox 33 W6.heap.size, kAny, kV (.int .i64 0)]) ⟨StT.v _ _, StT.v _ _, StT.v _ _, StT.v _ _, StT.v _ _, StT.e (by decide) _ _ _, StT.e (by decide) _ _ _, StT.q (by decide) _ _, StT.v _ _, StT.box _ _, StT.any _, StT.v _ _, trivial⟩) jx vx w1 w2 h hE
              · intro w1 w2 hB hE; exact hB.trans hE.1
              · refine AllFrom.step (m := 11) (j := 1) rfl ?_ ?_
                · intro D f w1 hD hB hR hp hcl hX
                  refine wpOp_step rfl (fun K hK => ?_)
                  simp only [putAll, Act.put, List.setIfInBounds_toArray, List.set_cons_succ, List.set_cons_zero]
                  go_simp
                  exact hK _ _ ⟨.slice (some ⟨b, o, none⟩) n ca, (by show _ = Act.put _ (some 46) _; simp only [putAll, Act.put, List.setIfInBounds_toArray, List.set_cons_succ, List.set_cons_zero, *]), rfl, ExtT.refl _ _ _, fun h => absurd h (no_of (D := D) (hcl 10) (by kernel_rfl) hD)⟩
                refine AllFrom.step (m := 10) (j := 2) rfl ?_ ?_
                · intro D f w1 hD hB hR hp hcl hX
                  refine wpOp_step rfl (fun K hK => ?_)
                  simp only [putAll, Act.put, List.setIfInBounds_toArray, List.set_cons_succ, List.set_cons_zero]
                  go_simp
                  exact hK _ _ ⟨.int .i64 (i : Int), (by show _ = Act.put _ (some 47) _; simp only [putAll, Act.put, List.setIfInBounds_toArray, List.set_cons_succ, List.set_cons_zero, *]), rfl, ExtT.refl _ _ _, fun h => absurd h (no_of (D := D) (hcl 10) (by kernel_rfl) hD)⟩
                refine AllFrom.step (m := 9) (j := 3) rfl ?_ ?_
                · intro D f w1 hD hB hR hp hcl hX
                  have e0 : f 46 = .slice (some ⟨b, o, none⟩) n ca := (hp_at hp 0 (by kernel_rfl)).2
                  have e1 : f 47 = .int .i64 (i : Int) := (hp_at hp 1 (by kernel_rfl)).2
                  refine wpOp_step rfl (fun K hK => ?_)
                  simp only [putAll, Act.put, List.setIfInBounds_toArray, List.set_cons_succ, List.set_cons_zero]
                  go_simp
                  exact hK _ _ ⟨.pointer (some ⟨b, o + i * 3, none⟩), (by show _ = Act.put _ (some 48) _; simp only [putAll, Act.put, List.setIfInBounds_toArray, List.set_cons_succ, List.set_cons_zero, *]), rfl, ExtT.refl _ _ _, fun h => absurd h (no_of (D := D) (hcl 10) (by kernel_rfl) hD)⟩
                refine AllFrom.step (m := 8) (j := 4) rfl ?_ ?_
                · intro D f w1 hD hB hR hp hcl hX
                  have e2 : f 48 = .pointer (some ⟨b, o + i * 3, none⟩) := (hp_at hp 2 (by kernel_rfl)).2
                  obtain ⟨k0, k1, k2⟩ := KU.out w1 hB
                  obtain ⟨l0, l1, l2⟩ := KP.out w1 hB
                  refine wpOp_step rfl (fun K hK => ?_)
                  simp only [putAll, Act.put, List.setIfInBounds_toArray, List.set_cons_succ, List.set_cons_zero]
                  go_simp
                  exact hK _ _ ⟨.agg #[.bool r.s, .slice r.ao r.n r.ca, .slice r.bo r.m r.cb], (by show _ = Act.put _ (some 49) _; simp only [putAll, Act.put, List.setIfInBounds_toArray, List.set_cons_succ, List.set_cons_zero, *]), rfl, ExtT.refl _ _ _, fun h => absurd h (no_of (D := D) (hcl 10) (by kernel_rfl) hD)⟩
                refine AllFrom.step (m := 7) (j := 5) rfl ?_ ?_
                · intro D f w1 hD hB hR hp hcl hX
                  obtain ⟨k0, k1, k2⟩ := KU.out w1 hB
                  obtain ⟨l0, l1, l2⟩ := KP.out w1 hB
                  refine wpOp_step rfl (fun K hK => ?_)
                  simp only [putAll, Act.put, List.setIfInBounds_toArray, List.set_cons_succ, List.set_cons_zero]
                  go_simp
                  exact hK _ _ ⟨.agg #[.bool p.s, .slice p.ao p.n p.ca, .slice p.bo p.m p.cb], (by show _ = Act.put _ (some 50) _; simp only [putAll, Act.put, List.setIfInBounds_toArray, List.set_cons_succ, List.set_cons_zero, *]), rfl, ExtT.refl _ _ _, fun h => absurd h (no_of (D := D) (hcl 10) (by kernel_rfl) hD)⟩
                refine AllFrom.step (m := 6) (j := 6) rfl ?_ ?_
                · intro D f w1 hD hB hR hp hcl hX
                  have e3 : f 49 = .agg #[.bool r.s, .slice r.ao r.n r.ca, .slice r.bo r.m r.cb] := (hp_at hp 3 (by kernel_rfl)).2
                  have e4 : f 50 = .agg #[.bool p.s, .slice p.ao p.n p.ca, .slice p.bo p.m p.cb] := (hp_at hp 4 (by kernel_rfl)).2
                  refine wpOp_step rfl (fun K hK => ?_)
                  simp only [putAll, Act.put, List.setIfInBounds_toArray, List.set_cons_succ, List.set_cons_zero]
                  go_simp
                  refine (QU.out w1 hB).mono ?_
                  rintro e w2 ⟨s9, a9, n9, c9, o9, m9, d9, rfl, cq, hb⟩
                  go_simp
                  exact hK _ _ ⟨.tuple #[.agg #[.bool s9, .slice a9 n9 c9, .slice o9 m9 d9], .int .i64 0], (by show _ = Act.put _ (some 51) _; simp only [putAll, Act.put, List.setIfInBounds_toArray, List.set_cons_succ, List.set_cons_zero, *]), ⟨_, _, _, _, _, _, _, rfl, cq.mono (Nat.zero_le _)⟩, ExtT.of_below hb hB.size, fun h => absurd h (no_of (D := D) (hcl 10) (by kernel_rfl) hD)⟩
                refine AllFrom.step (m := 5) (j := 7) rfl ?_ ?_
                · intro D f w1 hD hB hR hp hcl hX
                  obtain ⟨s5, a5, n5, c5, o5, m5, d5, e5, q5⟩ := (hp_at hp 5 (by kernel_rfl)).2
                  replace e5 : f 51 = _ := e5
                  refine wpOp_step rfl (fun K hK => ?_)
                  simp only [putAll, Act.put, List.setIfInBounds_toArray, List.set_cons_succ, List.set_cons_zero]
                  go_simp
                  exact hK _ _ ⟨.tuple #[.agg #[.bool s5, .slice a5 n5 c5, .slice o5 m5 d5], .int .i64 0], (by show _ = Act.put _ (some 45) _; simp only [putAll, Act.put, List.setIfInBounds_toArray, List.set_cons_succ, List.set_cons_zero, *]), ⟨_, _, _, _, _, _, _, rfl, q5⟩, ExtT.refl _ _ _, fun h => absurd h (no_of (D := D) (hcl 10) (by kernel_rfl) hD)⟩
                refine AllFrom.step (m := 4) (j := 8) rfl ?_ ?_
                · intro D f w1 hD hB hR hp hcl hX
                  obtain ⟨s6, a6, n6, c6, o6, m6, d6, e6, q6⟩ := (hp_at hp 6 (by kernel_rfl)).2
                  replace e6 : f 45 = _ := e6
                  refine wpOp_step rfl (fun K hK => ?_)
                  simp only [putAll, Act.put, List.setIfInBounds_toArray, List.set_cons_succ, List.set_cons_zero]
                  go_simp
                  exact hK _ _ ⟨.agg #[.bool s6, .slice a6 n6 c6, .slice o6 m6 d6], (by show _ = Act.put _ (some 52) _; simp only [putAll, Act.put, List.setIfInBounds_toArray, List.set_cons_succ, List.set_cons_zero, *]), ⟨_, _, _, _, _, _, _, rfl, q6⟩, ExtT.refl _ _ _, fun h => absurd h (no_of (D := D) (hcl 10) (by kernel_rfl) hD)⟩
                refine AllFrom.step (m := 3) (j := 9) rfl ?_ ?_
                · intro D f w1 hD hB hR hp hcl hX
                  obtain ⟨s6, a6, n6, c6, o6, m6, d6, e6, q6⟩ := (hp_at hp 6 (by kernel_rfl)).2
                  replace e6 : f 45 = _ := e6
                  refine wpOp_step rfl (fun K hK => ?_)
                  simp only [putAll, Act.put, List.setIfInBounds_toArray, List.set_cons_succ, List.set_cons_zero]
                  go_simp
                  exact hK _ _ ⟨.int .i64 0, (by show _ = Act.put _ (some 53) _; simp only [putAll, Act.put, List.setIfInBounds_toArray, List.set_cons_succ, List.set_cons_zero, *]), rfl, ExtT.refl _ _ _, hX⟩
                refine AllFrom.step (m := 2) (j := 10) rfl ?_ ?_
                · intro D f w1 hD hB hR hp hcl hX
                  refine wpOp_step rfl (fun K hK => ?_)
                  simp only [putAll, Act.put, List.setIfInBounds_toArray, List.set_cons_succ, List.set_cons_zero]
                  go_simp
                  exact hK _ _ ⟨.pointer (some ⟨w1.heap.size, 0, none⟩), (by show _ = Act.put _ (some 9) _; simp only [putAll, Act.put, List.setIfInBounds_toArray, List.set_cons_succ, List.set_cons_zero, *]), ⟨w1.heap.size, rfl, hB.size, newBT _ _ _ _ _⟩, ExtT.of_below (below_new _ _) hB.size, fun h => absurd h (no_of (D := D) (hcl 10) (by kernel_rfl) hD)⟩
                refine AllFrom.step (m := 1) (j := 11) rfl ?_ ?_
                · intro D f w1 hD hB hR hp hcl hX
                  obtain ⟨g, eg, hg, hb⟩ := (hp_at hp 9 (by kernel_rfl)).2
                  obtain ⟨s5, a5, n5, c5, o5, m5, d5, ev, hcq⟩ := (hp_at hp 7 (by kernel_rfl)).2
                  replace ev : f 52 = _ := ev
                  replace eg : f 9 = _ := eg
                  obtain ⟨u0, u1, u2, q0, q1, q2, z0, z1, z2⟩ := hb.facts
                  refine wpOp_step rfl (fun K hK => ?_)
                  simp only [putAll, Act.put, List.setIfInBounds_toArray, List.set_cons_succ, List.set_cons_zero]
                  go_simp
                  exact hK _ _ ⟨undef, (by show _ = Act.put _ (none) _; simp only [putAll, Act.put, List.setIfInBounds_toArray, List.set_cons_succ, List.set_cons_zero, *]), trivial, ExtT.set3 hb hg _ _ _, fun _ => by show HoldsT _ _ (f 9) (f 52); rw [eg, ev]; exact HoldsT.new hb _ _ _⟩
                refine AllFrom.step (m := 0) (j := 12) rfl ?_ ?_
                · intro D f w1 hD hB hR hp hcl hX
                  have e8 : f 53 = .int .i64 0 := (hp_at hp 8 (by kernel_rfl)).2
                  refine wpOp_step rfl (fun K hK => ?_)
                  simp only [putAll, Act.put, List.setIfInBounds_toArray, List.set_cons_succ, List.set_cons_zero]
                  go_simp
                  exact hK _ _ ⟨.int .i64 0, (by show _ = Act.put _ (some 10) _; simp only [putAll, Act.put, List.setIfInBounds_toArray, List.set_cons_succ, List.set_cons_zero, *]), rfl, ExtT.refl _ _ _, hX⟩
                exact AllFrom.nil
              · intro D f w1 hall hB hR hX
                simp only [putAll, Act.put, List.setIfInBounds_toArray, List.set_cons_succ, List.set_cons_zero]
                go_wp2_with fail
                go_meet
                exact ⟨hR 11 (by decide), box_cut hB (hR 9 (by decide)) (hX (hall 10 (by decide))) (hR 7 (by decide))⟩
            rename World => W7
            obtain ⟨rfl, g7, s7, a7, n7, c7, o7, m7, d7, rfl, hg7, x7, cq7, b7⟩ := hcut
            have HA := Lib.hid (rAdd_q _ _ _ _ _ _ _ _ _ _ _ _ _ _ (kq 5 i) _ (X / Y) W7 ((kT6.out.below b7).rq) (RQ.up cq7.rq (kq_ge 5 i) (by have := kq_le (k := 5) (by omega) (show i ≤ 12 by omega); omega)) (by have := kq_le (k := 5) (by omega) (show i ≤ 12 by omega); omega))
            have X7 := Lib.hid (carry hx6.out b7)
            have HF7 : Hid (∀ B, B ≤ g → Below B W2 W7) := fun B hB => (HF6.out B hB).trans (b7.mono (by omega))
            obtain ⟨j0, j1, j2, _⟩ := at_block x7
            obtain ⟨d0, d1, d2, _, _, _⟩ := at_block X7.out
            have hg7s : g < W7.heap.size := Nat.lt_of_lt_of_le hg6s b7.size
            clear x7 cq7 b7 hx6 kT6 HF6 KU KP QU hg7 hg6s
            go_wp2_with fail
            refine (HA.out).mono ?_; rintro e w8 ⟨s8, a8, n8, c8, o8, m8, d8, rfl, cq8, b8⟩
            have x8 := carry X7.out b8
            have HT8 : Hid (TotAt (((w8.setCell ⟨g, 0, none⟩ (.bool s8)).setCell ⟨g, 1, none⟩ (.slice a8 n8 c8)).setCell ⟨g, 2, none⟩ (.slice o8 m8 d8)) g (qsum ((estL qs ps).take (i + 1))) (kq 5 (i + 1))) := by
              unfold Hid; rw [EZ'.out, kq_succ]
              exact ⟨s8, a8, n8, c8, o8, m8, d8, set3_at x8 _ _ _, (((cq8.mono (by omega)).set_at 0 _).set_at 1 _).set_at 2 _⟩
            have HF8 : Hid (∀ B, B ≤ g → Below B W2 (((w8.setCell ⟨g, 0, none⟩ (.bool s8)).setCell ⟨g, 1, none⟩ (.slice a8 n8 c8)).setCell ⟨g, 2, none⟩ (.slice o8 m8 d8))) := fun B hB => (HF7.out B hB).trans (below3 (b8.mono (by omega)) hB _ _ _)
            obtain ⟨u0, u1, u2, z0, z1, z2⟩ := at_block x8
            clear j0 j1 j2 d0 d1 d2 HA x8 X7 cq8 b8
            go_wp2_with fail
            go_roundw
            case rel => exact ⟨i + 1, by omega, by go_num, HT8, HGG, HF8⟩
            case measure => simp [intOf]; omega
          · have hc2 : 0 < C := by omega
            have fin := Lib.hid (G0'.out (by rw [GY.out]; simp; omega))
            refine wp_region_held_drew (S := fun w' => Below W5.heap.size W5 w') (by kernel_rfl) ((Below.refl _ _).drew) (fun hH => ?_)
            refine wpAnyH_take (i := 0) (v := (.agg #[.bool p.s, .slice p.ao p.n p.ca, .slice p.bo p.m p.cb])) rfl (by kernel_rfl) (by kernel_rfl) (by kernel_rfl) (fun _ _ _ h => h) (Or.inl ⟨by kernel_rfl, ?_⟩) hH ?_
            · intro w1 hB
              obtain ⟨k0, k1, k2⟩ := KP5.out w1 hB
              go_simp
            change wpAnyH _ _ _ _ _ _ _ (Act.put _ (some 35) _) _
            try simp only [Act.put, List.setIfInBounds_toArray, List.set_cons_zero, List.set_cons_succ]
            refine wpAnyH_ready (rs := [1]) (by kernel_rfl) (by simp) ?_
            refine AllReadyH.cons rfl (fun K hK => ?_) AllReadyH.nil
            go_simp
            refine (SG.out _ hH).mono ?_
            rintro e V1 ⟨rfl, v1⟩
            try go_simp
            refine hK.out _ _ (keepB v1 hH (Nat.le_refl _)) (fun hH1 => ?_)
            clear hK K
            try simp only [Act.put, List.setIfInBounds_toArray, List.set_cons_zero, List.set_cons_succ]
            refine wpAnyH_take (i := 2) (v := (.bool false)) rfl (by kernel_rfl) (by kernel_rfl) (by kernel_rfl) (fun _ _ _ h => h) (Or.inl ⟨by kernel_rfl, ?_⟩) hH1 ?_
            · intro w1 hB
              go_simp
            change wpAnyH _ _ _ _ _ _ _ (Act.put _ (some 37) _) _
            try simp only [Act.put, List.setIfInBounds_toArray, List.set_cons_zero, List.set_cons_succ]
            refine wpAnyH_take (i := 3) (v := (.bool false)) rfl (by kernel_rfl) (by kernel_rfl) (by kernel_rfl) (fun _ _ _ h => h) (Or.inl ⟨by kernel_rfl, ?_⟩) hH1 ?_
            · intro w1 hB
              go_simp
            change wpAnyH _ _ _ _ _ _ _ (Act.put _ (some 38) _) _
            try simp only [Act.put, List.setIfInBounds_toArray, List.set_cons_zero, List.set_cons_succ]
            refine wpAnyH_take (i := 4) (v := (.agg #[.bool p.s, .slice p.ao p.n p.ca, .slice p.bo p.m p.cb])) rfl (by kernel_rfl) (by kernel_rfl) (by kernel_rfl) (fun _ _ _ h => h) (Or.inl ⟨by kernel_rfl, ?_⟩) hH1 ?_
            · intro w1 hB
              obtain ⟨k0, k1, k2⟩ := KP5.out w1 hB
              go_simp
            change wpAnyH _ _ _ _ _ _ _ (Act.put _ (some 39) _) _
            try simp only [Act.put, List.setIfInBounds_toArray, List.set_cons_zero, List.set_cons_succ]
            refine wpAnyH_ready (rs := [5]) (by kernel_rfl) (by simp) ?_
            refine AllReadyH.cons rfl (fun K hK => ?_) AllReadyH.nil
            go_simp
            refine (ON.out _).mono ?_
            rintro e V5 ⟨s5, a5, n5, c5, o5, m5, d5, rfl, cq5, v5⟩
            try go_simp
            refine hK.out _ _ (keepB v5 hH1 (Nat.le_refl _)) (fun hH5 => ?_)
            clear hK K
            try simp only [Act.put, List.setIfInBounds_toArray, List.set_cons_zero, List.set_cons_succ]
            refine wpAnyH_ready (rs := [6]) (by kernel_rfl) (by simp) ?_
            refine AllReadyH.cons rfl (fun K hK => ?_) AllReadyH.nil
            go_simp
            refine (CM.out _ hH5 s5 a5 n5 c5 o5 m5 d5 cq5.rq).mono ?_
            rintro e V6 ⟨rfl, v6⟩
            try go_simp
            refine hK.out _ _ (keepB v6 hH5 (Nat.le_refl _)) (fun hH6 => ?_)
            clear hK K
            try simp only [Act.put, List.setIfInBounds_toArray, List.set_cons_zero, List.set_cons_succ]
            refine wpAnyH_take (i := 7) (v := (.bool true)) rfl (by kernel_rfl) (by kernel_rfl) (by kernel_rfl) (fun _ _ _ h => h) (Or.inl ⟨by kernel_rfl, ?_⟩) hH6 ?_
            · intro w1 hB
              go_simp
            change wpAnyH _ _ _ _ _ _ _ (Act.put _ (some 42) _) _
            try simp only [Act.put, List.setIfInBounds_toArray, List.set_cons_zero, List.set_cons_succ]
            refine wpAnyH_take (i := 8) (v := (.bool true)) rfl (by kernel_rfl) (by kernel_rfl) (by kernel_rfl) (fun _ _ _ h => h) (Or.inl ⟨by kernel_rfl, ?_⟩) hH6 ?_
            · intro w1 hB
              go_simp
            change wpAnyH _ _ _ _ _ _ _ (Act.put _ (some 43) _) _
            try simp only [Act.put, List.setIfInBounds_toArray, List.set_cons_zero, List.set_cons_succ]
            refine wpAnyH_done (by kernel_rfl) ?_ _
            have b6 : Below W5.heap.size W5 _ := hH6
            obtain ⟨t0, t1, t2, y0, y1, y2⟩ := at_block (carry hX5.out b6)
            have HB6 := Lib.hid (HBW5.out.trans (b6.mono HBW5.out.size))
            clear b6
            go_wp2_with fail
            refine bodyPost_ret (v := .tuple #[.agg #[.bool false, .slice none 0 0, .slice none 0 0], .int .i64 105]) (by simp [results, Try.results31, go_sem, t0, t1, t2]) rfl ?_
            rw [fin.out.1, fin.out.2]; exact ⟨2, _, _, _, _, _, _, _, rfl, cq_zero _ _ 2 (by omega) (by omega), by first | exact HB6.out | exact below3 HB6.out (Nat.le_refl _) _ _ _⟩
      · obtain rfl : i = n := by omega
        have hlt2 : ¬ (i : Int) < (i : Int) := by omega
        have fin := Lib.hid (G1.out hgd.out)
        obtain ⟨t0, t1, t2, y0, y1, y2⟩ := at_block hX2.out
        obtain ⟨v0, v1, v2, _, _, _⟩ := at_block x0
        rw [EA.out] at cq0
        have h9 := Lib.hid (cq0.mono (B' := w.heap.size + 1) (by omega))
        clear htot hfr HT x0 cq0 HU HV HN HM HQ HP G0 G1 ET EA EZ hgd
        go_wp2_with fail
        refine bodyPost_ret (v := .tuple #[.agg #[.bool s, .slice a k c, .slice o' m' d], .int .i64 0]) (by simp [results, Try.results31, go_sem, t0, t1, t2]) rfl ?_
        rw [fin.out.1, fin.out.2]; exact ⟨_, _, _, _, _, _, _, _, rfl, (((h9.out.set_at _ _).set_at _ _).set_at _ _).mono (by omega), below3 HBW.out (Nat.le_refl _) _ _ _⟩
end Go.Proofs.Ytghdnnfohllcbaa
