import Derived.Test.YtjgofoekocdecaaDrD
import Derived.Test.YtjgofoekocdecaaDrP
import Derived.Test.YtjgofoekocdecaaSmpAw
/- SampleProbabilities: the walk. -/
namespace Go.Proofs.Ytjgofoekocdecaa.Dr
open Go.RowKit Go.Sort C6

theorem szs_made {zs : List Int} (h1 : 1 ≤ zs.length) (h : ∀ x ∈ zs, 1 ≤ x ∧ x ≤ 402) : szs zs = true := szs_good h1 (fun i hi => by
  have e : zs.getD i 0 = zs[i] := by simp [List.getD, hi]
  have := h _ (List.getElem_mem hi)
  rw [e]
  unfold szOk
  rw [decide_eq_true (show 1 ≤ zs[i] by omega), decide_eq_true (show zs[i] ≤ 1099511627776 by omega)]
  rfl)
set_option maxHeartbeats 16000000 in
set_option maxRecDepth 100000 in
theorem SampleProbabilities_any (to' : Option Addr) (ts : List Int) (tc : Nat) (w : World) (ht : RdZ w to' tc ts) :
    Calls Try.prog 3 #[.slice to' ts.length tc] w fun e w' => e = .returned (.bool true) ∧ Below w.heap.size w w' := by
  obtain ⟨W1, hW1⟩ : ∃ W, W = w.alloc (.cells #[.slice to' ts.length tc, .int .i64 0] 28) := ⟨_, rfl⟩
  obtain ⟨B, hB⟩ : ∃ B, B = w.heap.size := ⟨_, rfl⟩
  have b1 : Below w.heap.size w W1 := by rw [hW1]; exact below_new _ _
  have T1 : Tap W1 B to' ts.length tc 0 := by rw [hW1, hB]; exact Tap.new w to' ts.length tc
  have MD := Lib.hid (made_v B to' tc ts 0 W1 T1 (ht.below b1) (fun h b o e => by rw [hB]; exact ht.lt h b o e) (by omega))
  have B1 := Lib.hid b1
  have HBB : Hid (B = w.heap.size) := hB
  clear ht b1 T1
  go_enter Try.func3, Try.ntmps3
  go_wp2_with fail
  rw [← hW1]
  try rw [← hB]
  clear hW1 hB
  refine MD.out.mono ?_; rintro e W2 ⟨la, lc, zs, k, rfl, hz1, hz8, hzb, hk1, hkn, hz, g2, _⟩
  have B2 : Hid (Below w.heap.size w W2) := B1.out.trans (row_gb g2 B1.out.size (fun j e => by cases e; rw [HBB.out]; exact Nat.le_refl _))
  have hsz := szs_made hz1 hzb
  have hE : drE zs (k : Int) = 0 := by
    unfold drE
    rw [if_neg (by rw [hsz]; decide), if_neg (by omega)]
  have hx : ∀ i, i < zs.length → 1 ≤ fx zs i ∧ fx zs i ≤ 1099511627776 := fun i hi => szs_at hsz hi
  have IN := Lib.hid (Inclusion_v zs (k : Int) la lc W2 (by omega) hz)
  obtain ⟨N, hN⟩ : ∃ N, N = zs.length := ⟨_, rfl⟩
  have HN := Lib.hid hN
  have HZ := Lib.hid hz
  have HX : Hid (∀ i, i < zs.length → 1 ≤ fx zs i ∧ fx zs i ≤ 1099511627776) := hx
  have HE := Lib.hid hE
  unfold Hid at IN
  rw [← hN] at IN hz1 hz8 hkn ⊢
  have IN := Lib.hid IN
  have hlc : N ≤ lc := by have := hz.1; rw [intz_length, ← hN] at this; exact this
  clear hz g2 hsz hE hx hN hzb MD B1
  go_wp2_with fail
  refine IN.out.mono ?_; rintro e W3 ⟨b3, h3⟩
  rcases h3 with ⟨h, _⟩ | ⟨_, m, od, K, a, c, hkm, _, _, _, ho, hK, rfl, rs, hrl, hrd, hinc⟩
  · exact absurd HE.out h
  obtain rfl : m = k := by omega
  have PF := Lib.hid (prob_facts ho hK HX.out (by omega) (by have := HN.out; omega))
  obtain ⟨Q, hQ⟩ : ∃ Q, Q = incQ (fx zs) od K ((m : Int) - (K : Int)) := ⟨_, rfl⟩
  unfold Hid at PF
  rw [← hQ] at PF hinc
  rw [← HN.out] at PF hrl hinc ⊢
  have PF := Lib.hid PF
  have hls : Ls W3 rs ((List.range N).map Q) 2 := ⟨by simp [hrl], fun i hi => by
    rw [hrl] at hi
    have e : ((List.range N).map Q).getD i 0 = Q i := by simp [List.getD, hi]
    rw [e]
    exact (hinc.at hi).rq⟩
  obtain ⟨S, hS⟩ : ∃ S, S = rq (decide ((m : Int) < 0)) (m : Int).natAbs 1 := ⟨_, rfl⟩
  have SM : Hid (Calls Try.prog 7 #[.slice a N c] W3 (MakesQ S (kq 2 N) W3)) := by
    have := rSum_k 2 (by omega) (by omega) ((List.range N).map Q) a c rs W3 hrd (by omega) hls
    rw [hrl, PF.out.2.2, ← hS] at this
    exact this
  have FI : Hid (∀ w', Calls Try.prog 8 #[.int .i64 (m : Int)] w' (MakesQ S 2 w')) := fun w' => by rw [hS]; exact rFromInt_q (m : Int) (by omega) (by omega) w'
  have HB3 : Hid (Below w.heap.size w W3) := B2.out.trans (b3.mono B2.out.size)
  have HZ3 : Hid (RdZ W3 la lc zs) := HZ.out.below b3
  have HRD := Lib.hid hrd
  have HIN := Lib.hid hinc
  have HRL := Lib.hid hrl
  have E0 : ((0 : Int) != 0) = false := rfl
  have hac : N ≤ c := by have := hrd.1; omega
  have hac2 := hrd.2.1
  clear hkm ho hK hQ hls hS hrd hinc hrl b3 IN B2 HZ HX
  go_wp2_with fail
  refine SM.out.mono ?_; rintro e V1 ⟨s1, a1, n1, c1, o1, m1, d1, rfl, cq1, b1⟩
  have C1 := Lib.hid cq1
  have HV1 := Lib.hid b1
  clear cq1 b1 SM
  go_wp2_with fail
  refine (FI.out V1).mono ?_; rintro e V2 ⟨s2, a2, n2, c2, o2, m2, d2, rfl, cq2, b2⟩
  have C1' := Lib.hid (C1.out.below b2)
  have C2 := Lib.hid cq2
  have HV2 := Lib.hid (HV1.out.trans (b2.mono HV1.out.size))
  clear cq2 b2 FI C1 HV1
  go_wp2_with fail
  refine (Same_q C1'.out C2.out rfl).mono ?_; rintro e V3 ⟨rfl, b3⟩
  have HV3 : Hid (Below W3.heap.size W3 V3) := HV2.out.trans (b3.mono HV2.out.size)
  clear b3 C1' C2 HV2
  go_wp2_with fail
  go_loopw [41] (fun s41 wr => ∃ i : Nat, i ≤ N ∧ s41 = .int .i64 (i : Int) ∧ Hid (Below W3.heap.size W3 wr)) (fun s41 _ => N - (intOf s41).toNat)
  case atStart => exact ⟨0, by omega, rfl, HV3⟩
  case round =>
    obtain ⟨i, hiN, rfl, hbl⟩ := hrel
    by_cases hlt : i < N
    · have hlt2 : (i : Int) < (N : Int) := by omega
      obtain ⟨b, o, rfl, hat⟩ := HRD.out.at (by rw [HRL.out]; omega)
      obtain ⟨r, hre⟩ : ∃ r, r = rs.getD i RV.nil := ⟨_, rfl⟩
      have x1 := (hat i (by rw [HRL.out]; exact hlt)).below hbl.out
      have q1 := (HIN.out.at hlt).below hbl.out
      rw [← hre] at x1 q1
      obtain ⟨C1, hC1⟩ : ∃ C, C = cq (Q i) 1 := ⟨_, rfl⟩
      have hc1 : C1 ≤ 0 := by rw [hC1]; exact (PF.out.1 i hlt).2
      have hsg : sgn (Q i) = 1 := (PF.out.1 i hlt).1
      have K1 : Hid (∀ w', Below wr.heap.size wr w' → At3 w' b (o + i * 3) r) := fun w' hb => x1.below hb
      have SG : Hid (∀ w', Below wr.heap.size wr w' → Calls Try.prog 9 #[.agg #[.bool r.s, .slice r.ao r.n r.ca, .slice r.bo r.m r.cb]] w' fun e w2 => e = .returned (.int .i64 1) ∧ Below w'.heap.size w' w2) := fun w' hb => by
        have := rSign_q _ _ _ _ _ _ _ 2 (Q i) w' ((q1.below hb).rq)
        rwa [hsg] at this
      have ON : Hid (∀ w', Calls Try.prog 11 #[] w' (MakesQ 1 2 w')) := fun w' => rOne_q w'
      have CM : Hid (∀ w', Below wr.heap.size wr w' → ∀ t po n' ca' qo l cb', RQ w' t po n' ca' qo l cb' 1 2 → Calls Try.prog 10 #[.agg #[.bool r.s, .slice r.ao r.n r.ca, .slice r.bo r.m r.cb], .agg #[.bool t, .slice po n' ca', .slice qo l cb']] w' fun e w2 => e = .returned (.int .i64 C1) ∧ Below w'.heap.size w' w2) := fun w' hb t po n' ca' qo l cb' h1 => by rw [hC1]; exact rCompare_q _ _ _ _ _ _ _ _ _ _ _ _ _ _ 2 (Q i) 1 w' ((q1.below hb).rq) h1 (by omega)
      have hBO := Lib.hid hat
      have HRE := Lib.hid hre
      clear hre x1 q1 hC1 hsg hat
      go_upto_region 8 with fail
      refine wp_region_held_drew (S := fun w' => Below wr.heap.size wr w') (by kernel_rfl) ((Below.refl _ _).drew) (fun hH => ?_)
      refine wpAnyH_take (i := 0) (v := (.slice (some ⟨b, o, none⟩) N c)) rfl (by kernel_rfl) (by kernel_rfl) (by kernel_rfl) (fun _ _ _ h => h) (Or.inl ⟨by kernel_rfl, ?_⟩) hH ?_
      · intro w1 hB
        go_simp
      change wpAnyH _ _ _ _ _ _ _ (Act.put _ (some 44) _) _
      try simp only [Act.put, List.setIfInBounds_toArray, List.set_cons_zero, List.set_cons_succ]
      refine wpAnyH_take (i := 1) (v := (.int .i64 (i : Int))) rfl (by kernel_rfl) (by kernel_rfl) (by kernel_rfl) (fun _ _ _ h => h) (Or.inl ⟨by kernel_rfl, ?_⟩) hH ?_
      · intro w1 hB
        go_simp
      change wpAnyH _ _ _ _ _ _ _ (Act.put _ (some 45) _) _
      try simp only [Act.put, List.setIfInBounds_toArray, List.set_cons_zero, List.set_cons_succ]
      refine wpAnyH_take (i := 2) (v := (.pointer (some ⟨b, o + i * 3, none⟩))) rfl (by kernel_rfl) (by kernel_rfl) (by kernel_rfl) (fun _ _ _ h => h) (Or.inl ⟨by kernel_rfl, ?_⟩) hH ?_
      · intro w1 hB
        go_simp
      change wpAnyH _ _ _ _ _ _ _ (Act.put _ (some 46) _) _
      try simp only [Act.put, List.setIfInBounds_toArray, List.set_cons_zero, List.set_cons_succ]
      refine wpAnyH_take (i := 3) (v := (.agg #[.bool r.s, .slice r.ao r.n r.ca, .slice r.bo r.m r.cb])) rfl (by kernel_rfl) (by kernel_rfl) (by kernel_rfl) (fun _ _ _ h => h) (Or.inl ⟨by kernel_rfl, ?_⟩) hH ?_
      · intro w1 hB
        obtain ⟨k0, k1, k2⟩ := K1.out w1 hB
        go_simp
      change wpAnyH _ _ _ _ _ _ _ (Act.put _ (some 47) _) _
      try simp only [Act.put, List.setIfInBounds_toArray, List.set_cons_zero, List.set_cons_succ]
      refine wpAnyH_ready (rs := [4]) (by kernel_rfl) (by simp) ?_
      refine AllReadyH.cons rfl (fun K hK => ?_) AllReadyH.nil
      go_simp
      refine (SG.out _ hH).mono ?_
      rintro e V4 ⟨rfl, v4⟩
      try go_simp
      refine hK.out _ _ (keepB v4 hH (Nat.le_refl _)) (fun hH4 => ?_)
      clear hK K
      try simp only [Act.put, List.setIfInBounds_toArray, List.set_cons_zero, List.set_cons_succ]
      refine wpAnyH_take (i := 5) (v := (.bool false)) rfl (by kernel_rfl) (by kernel_rfl) (by kernel_rfl) (fun _ _ _ h => h) (Or.inl ⟨by kernel_rfl, ?_⟩) hH4 ?_
      · intro w1 hB
        go_simp
      change wpAnyH _ _ _ _ _ _ _ (Act.put _ (some 49) _) _
      try simp only [Act.put, List.setIfInBounds_toArray, List.set_cons_zero, List.set_cons_succ]
      refine wpAnyH_take (i := 6) (v := (.bool false)) rfl (by kernel_rfl) (by kernel_rfl) (by kernel_rfl) (fun _ _ _ h => h) (Or.inl ⟨by kernel_rfl, ?_⟩) hH4 ?_
      · intro w1 hB
        go_simp
      change wpAnyH _ _ _ _ _ _ _ (Act.put _ (some 50) _) _
      try simp only [Act.put, List.setIfInBounds_toArray, List.set_cons_zero, List.set_cons_succ]
      refine wpAnyH_take (i := 7) (v := (.slice (some ⟨b, o, none⟩) N c)) rfl (by kernel_rfl) (by kernel_rfl) (by kernel_rfl) (fun _ _ _ h => h) (Or.inl ⟨by kernel_rfl, ?_⟩) hH4 ?_
      · intro w1 hB
        go_simp
      change wpAnyH _ _ _ _ _ _ _ (Act.put _ (some 51) _) _
      try simp only [Act.put, List.setIfInBounds_toArray, List.set_cons_zero, List.set_cons_succ]
      refine wpAnyH_take (i := 8) (v := (.int .i64 (i : Int))) rfl (by kernel_rfl) (by kernel_rfl) (by kernel_rfl) (fun _ _ _ h => h) (Or.inl ⟨by kernel_rfl, ?_⟩) hH4 ?_
      · intro w1 hB
        go_simp
      change wpAnyH _ _ _ _ _ _ _ (Act.put _ (some 52) _) _
      try simp only [Act.put, List.setIfInBounds_toArray, List.set_cons_zero, List.set_cons_succ]
      refine wpAnyH_take (i := 9) (v := (.pointer (some ⟨b, o + i * 3, none⟩))) rfl (by kernel_rfl) (by kernel_rfl) (by kernel_rfl) (fun _ _ _ h => h) (Or.inl ⟨by kernel_rfl, ?_⟩) hH4 ?_
      · intro w1 hB
        go_simp
      change wpAnyH _ _ _ _ _ _ _ (Act.put _ (some 53) _) _
      try simp only [Act.put, List.setIfInBounds_toArray, List.set_cons_zero, List.set_cons_succ]
      refine wpAnyH_take (i := 10) (v := (.agg #[.bool r.s, .slice r.ao r.n r.ca, .slice r.bo r.m r.cb])) rfl (by kernel_rfl) (by kernel_rfl) (by kernel_rfl) (fun _ _ _ h => h) (Or.inl ⟨by kernel_rfl, ?_⟩) hH4 ?_
      · intro w1 hB
        obtain ⟨k0, k1, k2⟩ := K1.out w1 hB
        go_simp
      change wpAnyH _ _ _ _ _ _ _ (Act.put _ (some 54) _) _
      try simp only [Act.put, List.setIfInBounds_toArray, List.set_cons_zero, List.set_cons_succ]
      refine wpAnyH_ready (rs := [11]) (by kernel_rfl) (by simp) ?_
      refine AllReadyH.cons rfl (fun K hK => ?_) AllReadyH.nil
      go_simp
      refine (ON.out _).mono ?_
      rintro e V11 ⟨s5, a5, n5, c5, o5, m5, d5, rfl, cq5, v11⟩
      try go_simp
      refine hK.out _ _ (keepB v11 hH4 (Nat.le_refl _)) (fun hH11 => ?_)
      clear hK K
      try simp only [Act.put, List.setIfInBounds_toArray, List.set_cons_zero, List.set_cons_succ]
      refine wpAnyH_ready (rs := [12]) (by kernel_rfl) (by simp) ?_
      refine AllReadyH.cons rfl (fun K hK => ?_) AllReadyH.nil
      go_simp
      refine (CM.out _ hH11 s5 a5 n5 c5 o5 m5 d5 cq5.rq).mono ?_
      rintro e V12 ⟨rfl, v12⟩
      try go_simp
      refine hK.out _ _ (keepB v12 hH11 (Nat.le_refl _)) (fun hH12 => ?_)
      clear hK K
      try simp only [Act.put, List.setIfInBounds_toArray, List.set_cons_zero, List.set_cons_succ]
      refine wpAnyH_take (i := 13) (v := (.bool false)) rfl (by kernel_rfl) (by kernel_rfl) (by kernel_rfl) (fun _ _ _ h => h) (Or.inl ⟨by kernel_rfl, ?_⟩) hH12 ?_
      · intro w1 hB
        go_simp
      change wpAnyH _ _ _ _ _ _ _ (Act.put _ (some 57) _) _
      try simp only [Act.put, List.setIfInBounds_toArray, List.set_cons_zero, List.set_cons_succ]
      refine wpAnyH_take (i := 14) (v := (.bool false)) rfl (by kernel_rfl) (by kernel_rfl) (by kernel_rfl) (fun _ _ _ h => h) (Or.inl ⟨by kernel_rfl, ?_⟩) hH12 ?_
      · intro w1 hB
        go_simp
      change wpAnyH _ _ _ _ _ _ _ (Act.put _ (some 58) _) _
      try simp only [Act.put, List.setIfInBounds_toArray, List.set_cons_zero, List.set_cons_succ]
      refine wpAnyH_done (by kernel_rfl) ?_ _
      have BV : Below wr.heap.size wr _ := hH12
      have HB9 := Lib.hid (hbl.out.trans (BV.mono hbl.out.size))
      clear BV hbl K1 SG ON CM
      go_wp2_with fail
      go_loopw [61] (fun s61 wi => ∃ q : Nat, q ≤ N ∧ s61 = .int .i64 (q : Int) ∧ Hid (Below W3.heap.size W3 wi)) (fun s61 _ => N - (intOf s61).toNat)
      case atStart => exact ⟨0, by omega, rfl, HB9⟩
      case round =>
        obtain ⟨q, hqN, rfl, hbl⟩ := hrel
        by_cases hlq : q < N
        · have hlq2 : (q : Int) < (N : Int) := by omega
          obtain ⟨p, hpe⟩ : ∃ r, r = rs.getD q RV.nil := ⟨_, rfl⟩
          have x1 := (hBO.out i (by rw [HRL.out]; exact hlt)).below hbl.out
          have x2 := (hBO.out q (by rw [HRL.out]; exact hlq)).below hbl.out
          have q1 := (HIN.out.at hlt).below hbl.out
          have q2 := (HIN.out.at hlq).below hbl.out
          rw [← HRE.out] at x1 q1
          rw [← hpe] at x2 q2
          obtain ⟨zb, zo, rfl, kx⟩ := (HZ3.out.below hbl.out).atZ (show i < zs.length by rw [← HN.out]; exact hlt)
          obtain ⟨zb', zo', e', ky⟩ := (HZ3.out.below hbl.out).atZ (show q < zs.length by rw [← HN.out]; exact hlq)
          cases e'
          obtain ⟨X, hX⟩ : ∃ X, X = zs.getD i 0 := ⟨_, rfl⟩
          obtain ⟨Y, hY⟩ : ∃ Y, Y = zs.getD q 0 := ⟨_, rfl⟩
          rw [← hX] at kx
          rw [← hY] at ky
          obtain ⟨C2, hC2⟩ : ∃ C, C = cq (Q i) (Q q) := ⟨_, rfl⟩
          have hc2 : Hid (Y ≤ X → 0 ≤ C2) := fun h => by rw [hC2]; exact PF.out.2.1 i q hlt hlq (by show zs.getD q 0 ≤ zs.getD i 0; rw [← hX, ← hY]; exact h)
          have ZX : Hid (∀ w', Below wr.heap.size wr w' → w'.cell? ⟨zb, zo + i, none⟩ = some (.int .i64 X)) := fun w' hb => (hb.cell (World.block_lt_of_cell? _ _ kx)).trans kx
          have ZY : Hid (∀ w', Below wr.heap.size wr w' → w'.cell? ⟨zb, zo + q, none⟩ = some (.int .i64 Y)) := fun w' hb => (hb.cell (World.block_lt_of_cell? _ _ ky)).trans ky
          have K2 : Hid (∀ w', Below wr.heap.size wr w' → At3 w' b (o + i * 3) r) := fun w' hb => x1.below hb
          have K3 : Hid (∀ w', Below wr.heap.size wr w' → At3 w' b (o + q * 3) p) := fun w' hb => x2.below hb
          have CN : Hid (∀ w', Below wr.heap.size wr w' → Calls Try.prog 10 #[.agg #[.bool r.s, .slice r.ao r.n r.ca, .slice r.bo r.m r.cb], .agg #[.bool p.s, .slice p.ao p.n p.ca, .slice p.bo p.m p.cb]] w' fun e w2 => e = .returned (.int .i64 C2) ∧ Below w'.heap.size w' w2) := fun w' hb => by rw [hC2]; exact rCompare_q _ _ _ _ _ _ _ _ _ _ _ _ _ _ 2 (Q i) (Q q) w' ((q1.below hb).rq) ((q2.below hb).rq) (by omega)
          have hil : i < lc := by omega
          have hql : q < lc := by omega
          clear hpe x1 x2 q1 q2 kx ky hX hY hC2
          go_upto_region 13 with fail
          by_cases hge : Y ≤ X
          · have hc3 := hc2.out hge
            have hc4 : decide (C2 < 0) = false := decide_eq_false (by omega)
            refine wp_region_held_drew (S := fun w' => Below wr.heap.size wr w') (by kernel_rfl) ((Below.refl _ _).drew) (fun hH => ?_)
            refine wpAnyH_take (i := 0) (v := (.slice (some ⟨zb, zo, none⟩) N lc)) rfl (by kernel_rfl) (by kernel_rfl) (by kernel_rfl) (fun _ _ _ h => h) (Or.inl ⟨by kernel_rfl, ?_⟩) hH ?_
            · intro w1 hB
              go_simp
            change wpAnyH _ _ _ _ _ _ _ (Act.put _ (some 64) _) _
            try simp only [Act.put, List.setIfInBounds_toArray, List.set_cons_zero, List.set_cons_succ]
            refine wpAnyH_take (i := 1) (v := (.int .i64 (i : Int))) rfl (by kernel_rfl) (by kernel_rfl) (by kernel_rfl) (fun _ _ _ h => h) (Or.inl ⟨by kernel_rfl, ?_⟩) hH ?_
            · intro w1 hB
              go_simp
            change wpAnyH _ _ _ _ _ _ _ (Act.put _ (some 65) _) _
            try simp only [Act.put, List.setIfInBounds_toArray, List.set_cons_zero, List.set_cons_succ]
            refine wpAnyH_take (i := 2) (v := (.pointer (some ⟨zb, zo + i, none⟩))) rfl (by kernel_rfl) (by kernel_rfl) (by kernel_rfl) (fun _ _ _ h => h) (Or.inl ⟨by kernel_rfl, ?_⟩) hH ?_
            · intro w1 hB
              go_simp
            change wpAnyH _ _ _ _ _ _ _ (Act.put _ (some 66) _) _
            try simp only [Act.put, List.setIfInBounds_toArray, List.set_cons_zero, List.set_cons_succ]
            refine wpAnyH_take (i := 3) (v := (.int .i64 X)) rfl (by kernel_rfl) (by kernel_rfl) (by kernel_rfl) (fun _ _ _ h => h) (Or.inl ⟨by kernel_rfl, ?_⟩) hH ?_
            · intro w1 hB
              obtain ⟨k0, k1, k2⟩ := K2.out w1 hB
              obtain ⟨l0, l1, l2⟩ := K3.out w1 hB
              have x0 := ZX.out w1 hB
              have y0 := ZY.out w1 hB
              go_simp
            change wpAnyH _ _ _ _ _ _ _ (Act.put _ (some 67) _) _
            try simp only [Act.put, List.setIfInBounds_toArray, List.set_cons_zero, List.set_cons_succ]
            refine wpAnyH_take (i := 4) (v := (.slice (some ⟨zb, zo, none⟩) N lc)) rfl (by kernel_rfl) (by kernel_rfl) (by kernel_rfl) (fun _ _ _ h => h) (Or.inl ⟨by kernel_rfl, ?_⟩) hH ?_
            · intro w1 hB
              go_simp
            change wpAnyH _ _ _ _ _ _ _ (Act.put _ (some 68) _) _
            try simp only [Act.put, List.setIfInBounds_toArray, List.set_cons_zero, List.set_cons_succ]
            refine wpAnyH_take (i := 5) (v := (.int .i64 (q : Int))) rfl (by kernel_rfl) (by kernel_rfl) (by kernel_rfl) (fun _ _ _ h => h) (Or.inl ⟨by kernel_rfl, ?_⟩) hH ?_
            · intro w1 hB
              go_simp
            change wpAnyH _ _ _ _ _ _ _ (Act.put _ (some 69) _) _
            try simp only [Act.put, List.setIfInBounds_toArray, List.set_cons_zero, List.set_cons_succ]
            refine wpAnyH_take (i := 6) (v := (.pointer (some ⟨zb, zo + q, none⟩))) rfl (by kernel_rfl) (by kernel_rfl) (by kernel_rfl) (fun _ _ _ h => h) (Or.inl ⟨by kernel_rfl, ?_⟩) hH ?_
            · intro w1 hB
              go_simp
            change wpAnyH _ _ _ _ _ _ _ (Act.put _ (some 70) _) _
            try simp only [Act.put, List.setIfInBounds_toArray, List.set_cons_zero, List.set_cons_succ]
            refine wpAnyH_take (i := 7) (v := (.int .i64 Y)) rfl (by kernel_rfl) (by kernel_rfl) (by kernel_rfl) (fun _ _ _ h => h) (Or.inl ⟨by kernel_rfl, ?_⟩) hH ?_
            · intro w1 hB
              obtain ⟨k0, k1, k2⟩ := K2.out w1 hB
              obtain ⟨l0, l1, l2⟩ := K3.out w1 hB
              have x0 := ZX.out w1 hB
              have y0 := ZY.out w1 hB
              go_simp
            change wpAnyH _ _ _ _ _ _ _ (Act.put _ (some 71) _) _
            try simp only [Act.put, List.setIfInBounds_toArray, List.set_cons_zero, List.set_cons_succ]
            refine wpAnyH_take (i := 8) (v := (.bool true)) rfl (by kernel_rfl) (by kernel_rfl) (by kernel_rfl) (fun _ _ _ h => h) (Or.inl ⟨by kernel_rfl, ?_⟩) hH ?_
            · intro w1 hB
              go_simp
            change wpAnyH _ _ _ _ _ _ _ (Act.put _ (some 72) _) _
            try simp only [Act.put, List.setIfInBounds_toArray, List.set_cons_zero, List.set_cons_succ]
            refine wpAnyH_take (i := 9) (v := (.bool true)) rfl (by kernel_rfl) (by kernel_rfl) (by kernel_rfl) (fun _ _ _ h => h) (Or.inl ⟨by kernel_rfl, ?_⟩) hH ?_
            · intro w1 hB
              go_simp
            change wpAnyH _ _ _ _ _ _ _ (Act.put _ (some 73) _) _
            try simp only [Act.put, List.setIfInBounds_toArray, List.set_cons_zero, List.set_cons_succ]
            refine wpAnyH_take (i := 10) (v := (.slice (some ⟨b, o, none⟩) N c)) rfl (by kernel_rfl) (by kernel_rfl) (by kernel_rfl) (fun _ _ _ h => h) (Or.inl ⟨by kernel_rfl, ?_⟩) hH ?_
            · intro w1 hB
              go_simp
            change wpAnyH _ _ _ _ _ _ _ (Act.put _ (some 74) _) _
            try simp only [Act.put, List.setIfInBounds_toArray, List.set_cons_zero, List.set_cons_succ]
            refine wpAnyH_take (i := 11) (v := (.int .i64 (i : Int))) rfl (by kernel_rfl) (by kernel_rfl) (by kernel_rfl) (fun _ _ _ h => h) (Or.inl ⟨by kernel_rfl, ?_⟩) hH ?_
            · intro w1 hB
              go_simp
            change wpAnyH _ _ _ _ _ _ _ (Act.put _ (some 75) _) _
            try simp only [Act.put, List.setIfInBounds_toArray, List.set_cons_zero, List.set_cons_succ]
            refine wpAnyH_take (i := 12) (v := (.pointer (some ⟨b, o + i * 3, none⟩))) rfl (by kernel_rfl) (by kernel_rfl) (by kernel_rfl) (fun _ _ _ h => h) (Or.inl ⟨by kernel_rfl, ?_⟩) hH ?_
            · intro w1 hB
              go_simp
            change wpAnyH _ _ _ _ _ _ _ (Act.put _ (some 76) _) _
            try simp only [Act.put, List.setIfInBounds_toArray, List.set_cons_zero, List.set_cons_succ]
            refine wpAnyH_take (i := 13) (v := (.agg #[.bool r.s, .slice r.ao r.n r.ca, .slice r.bo r.m r.cb])) rfl (by kernel_rfl) (by kernel_rfl) (by kernel_rfl) (fun _ _ _ h => h) (Or.inl ⟨by kernel_rfl, ?_⟩) hH ?_
            · intro w1 hB
              obtain ⟨k0, k1, k2⟩ := K2.out w1 hB
              obtain ⟨l0, l1, l2⟩ := K3.out w1 hB
              have x0 := ZX.out w1 hB
              have y0 := ZY.out w1 hB
              go_simp
            change wpAnyH _ _ _ _ _ _ _ (Act.put _ (some 77) _) _
            try simp only [Act.put, List.setIfInBounds_toArray, List.set_cons_zero, List.set_cons_succ]
            refine wpAnyH_take (i := 14) (v := (.slice (some ⟨b, o, none⟩) N c)) rfl (by kernel_rfl) (by kernel_rfl) (by kernel_rfl) (fun _ _ _ h => h) (Or.inl ⟨by kernel_rfl, ?_⟩) hH ?_
            · intro w1 hB
              go_simp
            change wpAnyH _ _ _ _ _ _ _ (Act.put _ (some 78) _) _
            try simp only [Act.put, List.setIfInBounds_toArray, List.set_cons_zero, List.set_cons_succ]
            refine wpAnyH_take (i := 15) (v := (.int .i64 (q : Int))) rfl (by kernel_rfl) (by kernel_rfl) (by kernel_rfl) (fun _ _ _ h => h) (Or.inl ⟨by kernel_rfl, ?_⟩) hH ?_
            · intro w1 hB
              go_simp
            change wpAnyH _ _ _ _ _ _ _ (Act.put _ (some 79) _) _
            try simp only [Act.put, List.setIfInBounds_toArray, List.set_cons_zero, List.set_cons_succ]
            refine wpAnyH_take (i := 16) (v := (.pointer (some ⟨b, o + q * 3, none⟩))) rfl (by kernel_rfl) (by kernel_rfl) (by kernel_rfl) (fun _ _ _ h => h) (Or.inl ⟨by kernel_rfl, ?_⟩) hH ?_
            · intro w1 hB
              go_simp
            change wpAnyH _ _ _ _ _ _ _ (Act.put _ (some 80) _) _
            try simp only [Act.put, List.setIfInBounds_toArray, List.set_cons_zero, List.set_cons_succ]
            refine wpAnyH_take (i := 17) (v := (.agg #[.bool p.s, .slice p.ao p.n p.ca, .slice p.bo p.m p.cb])) rfl (by kernel_rfl) (by kernel_rfl) (by kernel_rfl) (fun _ _ _ h => h) (Or.inl ⟨by kernel_rfl, ?_⟩) hH ?_
            · intro w1 hB
              obtain ⟨k0, k1, k2⟩ := K2.out w1 hB
              obtain ⟨l0, l1, l2⟩ := K3.out w1 hB
              have x0 := ZX.out w1 hB
              have y0 := ZY.out w1 hB
              go_simp
            change wpAnyH _ _ _ _ _ _ _ (Act.put _ (some 81) _) _
            try simp only [Act.put, List.setIfInBounds_toArray, List.set_cons_zero, List.set_cons_succ]
            refine wpAnyH_ready (rs := [18]) (by kernel_rfl) (by simp) ?_
            refine AllReadyH.cons rfl (fun K hK => ?_) AllReadyH.nil
            go_simp
            refine (CN.out _ hH).mono ?_
            rintro e V18 ⟨rfl, v18⟩
            try go_simp
            refine hK.out _ _ (keepB v18 hH (Nat.le_refl _)) (fun hH18 => ?_)
            clear hK K
            try simp only [Act.put, List.setIfInBounds_toArray, List.set_cons_zero, List.set_cons_succ]
            refine wpAnyH_take (i := 19) (v := (.bool false)) rfl (by kernel_rfl) (by kernel_rfl) (by kernel_rfl) (fun _ _ _ h => h) (Or.inl ⟨by kernel_rfl, ?_⟩) hH18 ?_
            · intro w1 hB
              go_simp
            change wpAnyH _ _ _ _ _ _ _ (Act.put _ (some 83) _) _
            try simp only [Act.put, List.setIfInBounds_toArray, List.set_cons_zero, List.set_cons_succ]
            refine wpAnyH_take (i := 20) (v := (.bool false)) rfl (by kernel_rfl) (by kernel_rfl) (by kernel_rfl) (fun _ _ _ h => h) (Or.inl ⟨by kernel_rfl, ?_⟩) hH18 ?_
            · intro w1 hB
              go_simp
            change wpAnyH _ _ _ _ _ _ _ (Act.put _ (some 84) _) _
            try simp only [Act.put, List.setIfInBounds_toArray, List.set_cons_zero, List.set_cons_succ]
            refine wpAnyH_done (by kernel_rfl) ?_ _
            have BV : Below wr.heap.size wr _ := hH18
            have HB10 := Lib.hid (hbl.out.trans (BV.mono hbl.out.size))
            clear BV hbl
            go_wp2_with fail
            go_roundw
            case rel => exact ⟨q + 1, by omega, by go_num, HB10⟩
            case measure => simp [intOf]; omega
          · have hge' : decide (Y ≤ X) = false := decide_eq_false hge
            refine wp_region_held_drew (S := fun w' => Below wr.heap.size wr w') (by kernel_rfl) ((Below.refl _ _).drew) (fun hH => ?_)
            refine wpAnyH_take (i := 0) (v := (.slice (some ⟨zb, zo, none⟩) N lc)) rfl (by kernel_rfl) (by kernel_rfl) (by kernel_rfl) (fun _ _ _ h => h) (Or.inl ⟨by kernel_rfl, ?_⟩) hH ?_
            · intro w1 hB
              go_simp
            change wpAnyH _ _ _ _ _ _ _ (Act.put _ (some 64) _) _
            try simp only [Act.put, List.setIfInBounds_toArray, List.set_cons_zero, List.set_cons_succ]
            refine wpAnyH_take (i := 1) (v := (.int .i64 (i : Int))) rfl (by kernel_rfl) (by kernel_rfl) (by kernel_rfl) (fun _ _ _ h => h) (Or.inl ⟨by kernel_rfl, ?_⟩) hH ?_
            · intro w1 hB
              go_simp
            change wpAnyH _ _ _ _ _ _ _ (Act.put _ (some 65) _) _
            try simp only [Act.put, List.setIfInBounds_toArray, List.set_cons_zero, List.set_cons_succ]
            refine wpAnyH_take (i := 2) (v := (.pointer (some ⟨zb, zo + i, none⟩))) rfl (by kernel_rfl) (by kernel_rfl) (by kernel_rfl) (fun _ _ _ h => h) (Or.inl ⟨by kernel_rfl, ?_⟩) hH ?_
            · intro w1 hB
              go_simp
            change wpAnyH _ _ _ _ _ _ _ (Act.put _ (some 66) _) _
            try simp only [Act.put, List.setIfInBounds_toArray, List.set_cons_zero, List.set_cons_succ]
            refine wpAnyH_take (i := 3) (v := (.int .i64 X)) rfl (by kernel_rfl) (by kernel_rfl) (by kernel_rfl) (fun _ _ _ h => h) (Or.inl ⟨by kernel_rfl, ?_⟩) hH ?_
            · intro w1 hB
              obtain ⟨k0, k1, k2⟩ := K2.out w1 hB
              obtain ⟨l0, l1, l2⟩ := K3.out w1 hB
              have x0 := ZX.out w1 hB
              have y0 := ZY.out w1 hB
              go_simp
            change wpAnyH _ _ _ _ _ _ _ (Act.put _ (some 67) _) _
            try simp only [Act.put, List.setIfInBounds_toArray, List.set_cons_zero, List.set_cons_succ]
            refine wpAnyH_take (i := 4) (v := (.slice (some ⟨zb, zo, none⟩) N lc)) rfl (by kernel_rfl) (by kernel_rfl) (by kernel_rfl) (fun _ _ _ h => h) (Or.inl ⟨by kernel_rfl, ?_⟩) hH ?_
            · intro w1 hB
              go_simp
            change wpAnyH _ _ _ _ _ _ _ (Act.put _ (some 68) _) _
            try simp only [Act.put, List.setIfInBounds_toArray, List.set_cons_zero, List.set_cons_succ]
            refine wpAnyH_take (i := 5) (v := (.int .i64 (q : Int))) rfl (by kernel_rfl) (by kernel_rfl) (by kernel_rfl) (fun _ _ _ h => h) (Or.inl ⟨by kernel_rfl, ?_⟩) hH ?_
            · intro w1 hB
              go_simp
            change wpAnyH _ _ _ _ _ _ _ (Act.put _ (some 69) _) _
            try simp only [Act.put, List.setIfInBounds_toArray, List.set_cons_zero, List.set_cons_succ]
            refine wpAnyH_take (i := 6) (v := (.pointer (some ⟨zb, zo + q, none⟩))) rfl (by kernel_rfl) (by kernel_rfl) (by kernel_rfl) (fun _ _ _ h => h) (Or.inl ⟨by kernel_rfl, ?_⟩) hH ?_
            · intro w1 hB
              go_simp
            change wpAnyH _ _ _ _ _ _ _ (Act.put _ (some 70) _) _
            try simp only [Act.put, List.setIfInBounds_toArray, List.set_cons_zero, List.set_cons_succ]
            refine wpAnyH_take (i := 7) (v := (.int .i64 Y)) rfl (by kernel_rfl) (by kernel_rfl) (by kernel_rfl) (fun _ _ _ h => h) (Or.inl ⟨by kernel_rfl, ?_⟩) hH ?_
            · intro w1 hB
              obtain ⟨k0, k1, k2⟩ := K2.out w1 hB
              obtain ⟨l0, l1, l2⟩ := K3.out w1 hB
              have x0 := ZX.out w1 hB
              have y0 := ZY.out w1 hB
              go_simp
            change wpAnyH _ _ _ _ _ _ _ (Act.put _ (some 71) _) _
            try simp only [Act.put, List.setIfInBounds_toArray, List.set_cons_zero, List.set_cons_succ]
            refine wpAnyH_take (i := 8) (v := (.bool false)) rfl (by kernel_rfl) (by kernel_rfl) (by kernel_rfl) (fun _ _ _ h => h) (Or.inl ⟨by kernel_rfl, ?_⟩) hH ?_
            · intro w1 hB
              go_simp
            change wpAnyH _ _ _ _ _ _ _ (Act.put _ (some 72) _) _
            try simp only [Act.put, List.setIfInBounds_toArray, List.set_cons_zero, List.set_cons_succ]
            refine wpAnyH_take (i := 9) (v := (.bool false)) rfl (by kernel_rfl) (by kernel_rfl) (by kernel_rfl) (fun _ _ _ h => h) (Or.inl ⟨by kernel_rfl, ?_⟩) hH ?_
            · intro w1 hB
              go_simp
            change wpAnyH _ _ _ _ _ _ _ (Act.put _ (some 73) _) _
            try simp only [Act.put, List.setIfInBounds_toArray, List.set_cons_zero, List.set_cons_succ]
            refine wpAnyH_take (i := 10) (v := undef) rfl (by kernel_rfl) (by kernel_rfl) (by kernel_rfl) (fun _ _ _ h => h) (Or.inr ⟨by kernel_rfl, rfl⟩) hH ?_
            change wpAnyH _ _ _ _ _ _ _ (Act.put _ (some 74) _) _
            try simp only [Act.put, List.setIfInBounds_toArray, List.set_cons_zero, List.set_cons_succ]
            refine wpAnyH_take (i := 11) (v := undef) rfl (by kernel_rfl) (by kernel_rfl) (by kernel_rfl) (fun _ _ _ h => h) (Or.inr ⟨by kernel_rfl, rfl⟩) hH ?_
            change wpAnyH _ _ _ _ _ _ _ (Act.put _ (some 75) _) _
            try simp only [Act.put, List.setIfInBounds_toArray, List.set_cons_zero, List.set_cons_succ]
            refine wpAnyH_take (i := 12) (v := undef) rfl (by kernel_rfl) (by kernel_rfl) (by kernel_rfl) (fun _ _ _ h => h) (Or.inr ⟨by kernel_rfl, rfl⟩) hH ?_
            change wpAnyH _ _ _ _ _ _ _ (Act.put _ (some 76) _) _
            try simp only [Act.put, List.setIfInBounds_toArray, List.set_cons_zero, List.set_cons_succ]
            refine wpAnyH_take (i := 13) (v := undef) rfl (by kernel_rfl) (by kernel_rfl) (by kernel_rfl) (fun _ _ _ h => h) (Or.inr ⟨by kernel_rfl, rfl⟩) hH ?_
            change wpAnyH _ _ _ _ _ _ _ (Act.put _ (some 77) _) _
            try simp only [Act.put, List.setIfInBounds_toArray, List.set_cons_zero, List.set_cons_succ]
            refine wpAnyH_take (i := 14) (v := undef) rfl (by kernel_rfl) (by kernel_rfl) (by kernel_rfl) (fun _ _ _ h => h) (Or.inr ⟨by kernel_rfl, rfl⟩) hH ?_
            change wpAnyH _ _ _ _ _ _ _ (Act.put _ (some 78) _) _
            try simp only [Act.put, List.setIfInBounds_toArray, List.set_cons_zero, List.set_cons_succ]
            refine wpAnyH_take (i := 15) (v := undef) rfl (by kernel_rfl) (by kernel_rfl) (by kernel_rfl) (fun _ _ _ h => h) (Or.inr ⟨by kernel_rfl, rfl⟩) hH ?_
            change wpAnyH _ _ _ _ _ _ _ (Act.put _ (some 79) _) _
            try simp only [Act.put, List.setIfInBounds_toArray, List.set_cons_zero, List.set_cons_succ]
            refine wpAnyH_take (i := 16) (v := undef) rfl (by kernel_rfl) (by kernel_rfl) (by kernel_rfl) (fun _ _ _ h => h) (Or.inr ⟨by kernel_rfl, rfl⟩) hH ?_
            change wpAnyH _ _ _ _ _ _ _ (Act.put _ (some 80) _) _
            try simp only [Act.put, List.setIfInBounds_toArray, List.set_cons_zero, List.set_cons_succ]
            refine wpAnyH_take (i := 17) (v := undef) rfl (by kernel_rfl) (by kernel_rfl) (by kernel_rfl) (fun _ _ _ h => h) (Or.inr ⟨by kernel_rfl, rfl⟩) hH ?_
            change wpAnyH _ _ _ _ _ _ _ (Act.put _ (some 81) _) _
            try simp only [Act.put, List.setIfInBounds_toArray, List.set_cons_zero, List.set_cons_succ]
            refine wpAnyH_take (i := 18) (v := undef) rfl (by kernel_rfl) (by kernel_rfl) (by kernel_rfl) (fun _ _ _ h => h) (Or.inr ⟨by kernel_rfl, rfl⟩) hH ?_
            change wpAnyH _ _ _ _ _ _ _ (Act.put _ (some 82) _) _
            try simp only [Act.put, List.setIfInBounds_toArray, List.set_cons_zero, List.set_cons_succ]
            refine wpAnyH_take (i := 19) (v := undef) rfl (by kernel_rfl) (by kernel_rfl) (by kernel_rfl) (fun _ _ _ h => h) (Or.inr ⟨by kernel_rfl, rfl⟩) hH ?_
            change wpAnyH _ _ _ _ _ _ _ (Act.put _ (some 83) _) _
            try simp only [Act.put, List.setIfInBounds_toArray, List.set_cons_zero, List.set_cons_succ]
            refine wpAnyH_take (i := 20) (v := (.bool false)) rfl (by kernel_rfl) (by kernel_rfl) (by kernel_rfl) (fun _ _ _ h => h) (Or.inl ⟨by kernel_rfl, ?_⟩) hH ?_
            · intro w1 hB
              go_simp
            change wpAnyH _ _ _ _ _ _ _ (Act.put _ (some 84) _) _
            try simp only [Act.put, List.setIfInBounds_toArray, List.set_cons_zero, List.set_cons_succ]
            refine wpAnyH_done (by kernel_rfl) ?_ _
            have BV : Below wr.heap.size wr _ := hH
            have HB10 := Lib.hid (hbl.out.trans (BV.mono hbl.out.size))
            clear BV hbl
            go_wp2_with fail
            go_roundw
            case rel => exact ⟨q + 1, by omega, by go_num, HB10⟩
            case measure => simp [intOf]; omega
        · obtain rfl : q = N := by omega
          have hlq2 : ¬ (q : Int) < (q : Int) := by omega
          go_wp2_with fail
          go_roundw
          case rel => exact ⟨i + 1, by omega, by go_num, hbl⟩
          case measure => simp [intOf]; omega
    · obtain rfl : i = N := by omega
      have hlt2 : ¬ (i : Int) < (i : Int) := by omega
      go_wp2_with fail
      refine (awake10 _).mono ?_; rintro e V7 ⟨rfl, b7⟩
      have HW7 := Lib.hid (HB3.out.trans ((hbl.out.trans (b7.mono hbl.out.size)).mono HB3.out.size))
      clear b7
      go_wp2_with fail
      go_ret
      exact ⟨rfl, HW7.out⟩
end Go.Proofs.Ytjgofoekocdecaa.Dr
