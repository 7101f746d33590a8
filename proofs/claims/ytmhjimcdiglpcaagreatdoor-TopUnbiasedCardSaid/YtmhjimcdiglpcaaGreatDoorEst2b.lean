import Derived.Test.YtmhjimcdiglpcaaGreatDoorEstA
import Derived.Test.YtmhjimcdiglpcaaGreatDoorBoxA
/- sample.Estimate: the sum of the values over their probabilities, or the error; the number's size is bounded. -/
namespace Go.Proofs.YtmhjimcdiglpcaaGreatDoor
open Go.RowKit

def EstPostB (er : Int) (q : Rat) (w : World) (e : Ending) (w' : World) : Prop := ∃ k s a n c o m d, k ≤ 4100096 ∧ e = .returned (.tuple #[.agg #[.bool s, .slice a n c, .slice o m d], .int .i64 er]) ∧ CQ w.heap.size w' s a n c o m d q k ∧ Below w.heap.size w w'
set_option maxHeartbeats 16000000 in
set_option maxRecDepth 100000 in
theorem Estimate_b (qs ps : List Rat) (ao bo : Option Addr) (ca cb : Nat) (us vs : List RV) (w : World) (hu : RdR w ao ca us) (hv : RdR w bo cb vs) (hq : Ls w us qs 2) (hp : Ls w vs ps 2) (hl : us.length ≤ 8) (hl2 : vs.length ≤ 8) :
    Calls Tryz.prog 10 #[.slice ao us.length ca, .slice bo vs.length cb] w (EstPostB (estE qs ps) (estQ qs ps) w) := by
  obtain ⟨i0, hi, hz0, hz1, hz2⟩ := info_partsr infoRatio
  obtain ⟨n, hn⟩ : ∃ n, n = us.length := ⟨_, rfl⟩
  obtain ⟨m, hm⟩ : ∃ m, m = vs.length := ⟨_, rfl⟩
  have a1 := hu.1
  have a2 := hu.2.1
  have c1 := hv.1
  have c2 := hv.2.1
  rw [← hn] at a1 hl ⊢
  rw [← hm] at c1 hl2 ⊢
  have HU := Lib.hid hu
  have HV := Lib.hid hv
  have HN := Lib.hid hn
  have HM := Lib.hid hm
  have hlq : Hid (qs.length = n) := by unfold Hid; rw [hn, hq.1]
  have hlp : Hid (ps.length = m) := by unfold Hid; rw [hm, hp.1]
  have HQ := Lib.hid hq
  have HP := Lib.hid hp
  clear hu hv hq hp hn hm
  obtain ⟨W1, hW1, hB1, hX1, hs1⟩ := boxR w
  have x1 : Hid (W1.heap[w.heap.size]? = some (.cells #[.bool false, .slice none 0 0, .slice none 0 0] 32 (0, 0))) := by rw [hW1]; exact heap_alloc_new _ _
  have B1 := Lib.hid hB1
  have S1 := Lib.hid hs1
  clear hB1 hX1 hs1
  by_cases hbad : n = 0 ∨ n ≠ m
  · obtain ⟨hE, hQ0⟩ := est_list (qs := qs) (ps := ps) (by rw [hlq.out, hlp.out]; exact hbad)
    rw [hE, hQ0]
    obtain ⟨q0, q1, q2, z0, z1, z2⟩ := at_block x1.out
    have fin : Hid (EstPostB 104 0 w (.returned (.tuple #[.agg #[.bool false, .slice none 0 0, .slice none 0 0], .int .i64 104])) W1) := ⟨2, _, _, _, _, _, _, _, by omega, rfl, cq_zero _ _ 2 (by omega) (by omega), B1.out⟩
    clear hE hQ0 HU HV HN HM hlq hlp HQ HP B1 S1
    by_cases h0 : n = 0
    · subst h0
      clear hbad
      go_enter Tryz.func10, Tryz.ntmps10
      go_wp2_with fail
      rw [← hW1]
      clear hW1
      go_wp2_with fail
      refine bodyPost_ret (v := .tuple #[.agg #[.bool false, .slice none 0 0, .slice none 0 0], .int .i64 104]) (by simp [results, Tryz.results10, go_sem, q0, q1, q2]) rfl ?_
      exact fin.out
    · have hne : n ≠ m := by omega
      have h1 : 1 ≤ n := by omega
      have hnz : ((n : Int) == 0) = false := beq_eq_false_iff_ne.2 (by omega)
      have hnm : ((n : Int) != (m : Int)) = true := bne_iff_ne.2 (by omega)
      have h200 : decide ((200 : Int) < (n : Int)) = false := decide_eq_false (by omega)
      clear hbad h0
      go_enter Tryz.func10, Tryz.ntmps10
      go_wp2_with fail
      rw [← hW1]
      clear hW1
      go_wp2_with fail
      refine bodyPost_ret (v := .tuple #[.agg #[.bool false, .slice none 0 0, .slice none 0 0], .int .i64 104]) (by simp [results, Tryz.results10, go_sem, q0, q1, q2]) rfl ?_
      exact fin.out
  · have h1 : 1 ≤ n := by omega
    obtain rfl : n = m := by omega
    have hnz : ((n : Int) == 0) = false := beq_eq_false_iff_ne.2 (by omega)
    have hlt1 : decide ((n : Int) < 1) = false := decide_eq_false (by omega)
    have h200 : decide ((200 : Int) < (n : Int)) = false := decide_eq_false (by omega)
    have G0 : Hid (∀ i, i < n → goodp (ps.getD i 0) = false → estE qs ps = 105 ∧ estQ qs ps = 0) := fun i hi hb => est_bad (by rw [hlq.out]; exact h1) (by rw [hlq.out, hlp.out]) (by rw [hlp.out]; exact hi) hb
    have G1 : Hid ((∀ i, i < n → goodp (ps.getD i 0) = true) → estE qs ps = 0 ∧ estQ qs ps = qsum (estL qs ps)) := fun h => est_good (by rw [hlq.out]; exact h1) (by rw [hlq.out, hlp.out]) (fun i hi => h i (by rw [← hlp.out]; exact hi))
    have ET : Hid (∀ i, i < n → (estL qs ps).take (i + 1) = (estL qs ps).take i ++ [qs.getD i 0 / ps.getD i 0]) := fun i hi => estL_take (by rw [hlq.out, hlp.out]) (by rw [hlp.out]; exact hi)
    have EA : Hid ((estL qs ps).take n = estL qs ps) := by unfold Hid; rw [List.take_of_length_le]; rw [estL_len (by rw [hlq.out, hlp.out]), hlp.out]; exact Nat.le_refl _
    have EZ : Hid (∀ i, i < n → qsum ((estL qs ps).take (i + 1)) = qsum ((estL qs ps).take i) + qs.getD i 0 / ps.getD i 0) := fun i hi => by rw [ET.out i hi, qsum_snoc]
    clear hbad hlq hlp
    have FI : Hid (∀ w', Calls Tryz.prog 19 #[.int .i64 1] w' (MakesQ 1 2 w')) := fun w' => FromInt_q 1 (by omega) (by omega) w'
    go_enter Tryz.func10, Tryz.ntmps10
    go_upto_region 3 with fail
    rw [← hW1]
    clear hW1
    go_wp2_with fail
    refine (FI.out _).mono ?_; rintro e W2 ⟨s2, a2', n2, c2', o2, m2, d2, rfl, cq2, b2⟩
    obtain ⟨W3, hW3⟩ : ∃ W, W = W2.alloc (.cells #[.bool s2, .slice a2' n2 c2', .slice o2 m2 d2] 32) := ⟨_, rfl⟩
    obtain ⟨g3, hg3⟩ : ∃ g, g = W2.heap.size := ⟨_, rfl⟩
    have b3 : Below W2.heap.size W2 W3 := by rw [hW3]; exact below_new _ _
    have x3 : Hid (W3.heap[g3]? = some (.cells #[.bool s2, .slice a2' n2 c2', .slice o2 m2 d2] 32 (0, 0))) := by rw [hW3, hg3]; exact heap_alloc_new _ _
    have X3 := Lib.hid (carry (carry x1.out b2) b3)
    have hcq : Hid (CQ W1.heap.size W3 s2 a2' n2 c2' o2 m2 d2 1 2) := cq2.below b3
    have HB3 : Hid (Below w.heap.size w W3) := B1.out.trans ((b2.trans (b3.mono b2.size)).mono B1.out.size)
    have hg3l : w.heap.size < g3 := by have := S1.out; have := b2.size; omega
    clear b2 b3 cq2 FI x1 B1 S1
    go_upto_region 4 with fail
    rw [← hW3]
    try rw [← hg3]
    clear hW3 hg3
    obtain ⟨M, hM⟩ : ∃ M, M = W3.heap.size := ⟨_, rfl⟩
    have HMM := Lib.hid hM
    clear hM
    go_wp2_with fail
    go_loopw [31, 7] (fun s31 s7 wr => ∃ (i : Nat) (v : Value) (es : List RV), i ≤ n ∧ s31 = .int .i64 (i : Int) ∧ s7 = v ∧ Hid (wr.ownsRow M 32 3 v i (rvs es)) ∧ Hid (Lc 0 wr es ((estL qs ps).take i) 5) ∧ Hid (∀ j, j < i → goodp (ps.getD j 0) = true) ∧ Hid (Below M W3 wr)) (fun s31 _ _ => n - (intOf s31).toNat)
    case atStart => exact ⟨0, _, [], by omega, rfl, rfl, World.ownsRow_nil _ _ _ _, (show Lc 0 _ [] _ 5 from Lc.nil _ _ _), (show ∀ j, j < 0 → _ from fun j hj => by omega), Below.refl _ _⟩
    case round =>
      obtain ⟨i, v, es, hin, rfl, rfl, hown, hlc, hgd, hbl⟩ := hrel
      have hbl3 : Hid (Below W3.heap.size W3 wr) := by rw [← HMM.out]; exact hbl.out
      have HBW : Hid (Below w.heap.size w wr) := HB3.out.trans (hbl3.out.mono HB3.out.size)
      by_cases hlt : i < n
      · have hlt2 : (i : Int) < (n : Int) := by omega
        obtain ⟨pb, po, rfl, hpt⟩ := (HV.out.below HBW.out).at (by rw [← HM.out]; omega)
        obtain ⟨b, o, rfl, hut⟩ := (HU.out.below HBW.out).at (by rw [← HN.out]; omega)
        obtain ⟨r, hre⟩ : ∃ r, r = us.getD i RV.nil := ⟨_, rfl⟩
        obtain ⟨p, hpe⟩ : ∃ p, p = vs.getD i RV.nil := ⟨_, rfl⟩
        have HUT := hut i (by rw [← HN.out]; omega)
        obtain ⟨c0, c1', c2''⟩ := hpt i (by rw [← HM.out]; omega)
        rw [← hre] at HUT
        rw [← hpe] at c0 c1' c2''
        obtain ⟨X, hX⟩ : ∃ x, x = qs.getD i 0 := ⟨_, rfl⟩
        obtain ⟨Y, hY⟩ : ∃ x, x = ps.getD i 0 := ⟨_, rfl⟩
        have iU : IsK wr r X 2 := by rw [hre, hX]; exact (HQ.out.2 i (by rw [← HN.out]; omega)).below HBW.out
        have iP : IsK wr p Y 2 := by rw [hpe, hY]; exact (HP.out.2 i (by rw [← HM.out]; omega)).below HBW.out
        have G0' : Hid (goodp Y = false → estE qs ps = 105 ∧ estQ qs ps = 0) := by rw [hY]; exact G0.out i hlt
        have ET' : Hid ((estL qs ps).take (i + 1) = (estL qs ps).take i ++ [X / Y]) := by rw [hX, hY]; exact ET.out i hlt
        have GG : Hid (goodp Y = true → ∀ j, j < i + 1 → goodp (ps.getD j 0) = true) := fun h j hj => by
          by_cases e : j = i
          · rw [e, ← hY]; exact h
          · exact hgd.out j (by omega)
        clear hre hpe hX hY hpt hut hgd
        obtain ⟨W5, hW5⟩ : ∃ W, W = wr.alloc (.cells #[.bool p.s, .slice p.ao p.n p.ca, .slice p.bo p.m p.cb] 32) := ⟨_, rfl⟩
        obtain ⟨g5, hg5⟩ : ∃ g, g = wr.heap.size := ⟨_, rfl⟩
        have b5 : Below wr.heap.size wr W5 := by rw [hW5]; exact below_new _ _
        have x5 : Hid (W5.heap[g5]? = some (.cells #[.bool p.s, .slice p.ao p.n p.ca, .slice p.bo p.m p.cb] 32 (0, 0))) := by rw [hW5, hg5]; exact heap_alloc_new _ _
        have hx5 := Lib.hid (carry (carry x3.out hbl3.out) b5)
        have hX5 := Lib.hid (carry (carry X3.out hbl3.out) b5)
        have hU5 := Lib.hid (HUT.below b5)
        have kU := Lib.hid (iU.below b5)
        have kP := Lib.hid (iP.below b5)
        have kO := Lib.hid ((hcq.out.below hbl3.out).below b5)
        have hown5 := Lib.hid (row_below hown.out b5)
        have hlc5 := Lib.hid (hlc.out.below b5)
        have hwM : M ≤ wr.heap.size := by rw [HMM.out]; exact hbl3.out.size
        have HB5 : Hid (Below M W3 W5) := hbl.out.trans (b5.mono hwM)
        have hM5 : Hid (M ≤ W5.heap.size) := Nat.le_trans hwM b5.size
        have HBW5 : Hid (Below w.heap.size w W5) := HBW.out.trans (b5.mono HBW.out.size)
        have SG : Hid (∀ w', Below W5.heap.size W5 w' → Calls Tryz.prog 24 #[.agg #[.bool p.s, .slice p.ao p.n p.ca, .slice p.bo p.m p.cb]] w' fun e w2 => e = .returned (.int .i64 (sgn Y)) ∧ Below w'.heap.size w' w2) := fun w' hb => Sign_q _ _ _ _ _ _ _ 2 Y w' (kP.out.below hb)
        have CM : Hid (∀ w', Below W5.heap.size W5 w' → Calls Tryz.prog 25 #[.agg #[.bool p.s, .slice p.ao p.n p.ca, .slice p.bo p.m p.cb], .agg #[.bool s2, .slice a2' n2 c2', .slice o2 m2 d2]] w' fun e w2 => e = .returned (.int .i64 (cq Y 1)) ∧ Below w'.heap.size w' w2) := fun w' hb => Compare_q _ _ _ _ _ _ _ _ _ _ _ _ _ _ 2 Y 1 w' (kP.out.below hb) ((kO.out.below hb).rq) (by omega)
        clear HUT iU iP b5 hbl hbl3 HBW hown hlc hwM
        go_upto_region 8 with fail
        rw [← hW5]
        try rw [← hg5]
        clear hW5 hg5 c0 c1' c2''
        obtain ⟨e0, e1, e2, _, _, _⟩ := at_block x5.out
        obtain ⟨f0, f1, f2, _, _, _⟩ := at_block hx5.out
        obtain ⟨r0, r1, r2, y0, y1, y2⟩ := at_block hX5.out
        obtain ⟨S, hS⟩ : ∃ S, S = sgn Y := ⟨_, rfl⟩
        obtain ⟨C, hC⟩ : ∃ C, C = cq Y 1 := ⟨_, rfl⟩
        have hSb : -1 ≤ S ∧ S ≤ 1 := by rw [hS]; exact sgn_mag Y
        have hCb : -1 ≤ C ∧ C ≤ 1 := by rw [hC]; exact cq_mag Y 1
        have GY : Hid (goodp Y = (decide (0 < S) && decide (C ≤ 0))) := by unfold Hid goodp; rw [hS, hC]
        unfold Hid at SG CM
        rw [← hS] at SG
        rw [← hC] at CM
        have SG := Lib.hid SG
        have CM := Lib.hid CM
        clear hS hC
        by_cases hs : S ≤ 0
        · have fin := Lib.hid (G0'.out (by rw [GY.out]; simp; omega))
          go_wp2_with fail
          refine (SG.out _ (Below.refl _ _)).mono ?_; rintro e w6 ⟨rfl, b6⟩
          obtain ⟨t0, t1, t2, y0, y1, y2⟩ := at_block (carry hX5.out b6)
          have HB6 : Hid (Below w.heap.size w w6) := HBW5.out.trans (b6.mono HBW5.out.size)
          clear b6 e0 e1 e2 f0 f1 f2
          go_wp2_with fail
          refine bodyPost_ret (v := .tuple #[.agg #[.bool false, .slice none 0 0, .slice none 0 0], .int .i64 105]) (by simp [results, Tryz.results10, go_sem, t0, t1, t2]) rfl ?_
          rw [fin.out.1, fin.out.2]; exact ⟨2, _, _, _, _, _, _, _, by omega, rfl, cq_zero _ _ 2 (by omega) (by omega), by first | exact HB6.out | exact below3 HB6.out (Nat.le_refl _) _ _ _⟩
        · have hs2 : 0 < S := by omega
          by_cases hc : C ≤ 0
          · have hg : Hid (goodp Y = true) := by unfold Hid; rw [GY.out]; simp; omega
            have hY0 := good_ne hg.out
            have HGG := Lib.hid (GG.out hg.out)
            go_wp2_with fail
            refine (SG.out _ (Below.refl _ _)).mono ?_; rintro e w5 ⟨rfl, b5⟩
            obtain ⟨e0, e1, e2, _, _, _⟩ := at_block (carry x5.out b5)
            obtain ⟨f0, f1, f2, _, _, _⟩ := at_block (carry hx5.out b5)
            have HB5' := Lib.hid b5
            clear b5
            go_wp2_with fail
            refine (CM.out _ HB5'.out).mono ?_; rintro e W6 ⟨rfl, b6⟩
            have g6 : Below W5.heap.size W5 W6 := HB5'.out.trans (b6.mono HB5'.out.size)
            have QU : Hid (∀ w', Below W6.heap.size W6 w' → Calls Tryz.prog 28 #[.agg #[.bool r.s, .slice r.ao r.n r.ca, .slice r.bo r.m r.cb], .agg #[.bool p.s, .slice p.ao p.n p.ca, .slice p.bo p.m p.cb]] w' (MakesE (X / Y) 5 w')) := fun w' hb => Quo_q _ _ _ _ _ _ _ _ _ _ _ _ _ _ 2 X Y w' ((kU.out.below g6).below hb) ((kP.out.below g6).below hb) (by omega) hY0
            have KU : Hid (∀ w', Below W6.heap.size W6 w' → At3 w' b (o + i * 3) r) := fun w' hb => (hU5.out.below g6).below hb
            have KP : Hid (∀ w', Below W6.heap.size W6 w' → w'.cell? ⟨g5, 0, none⟩ = some (.bool p.s) ∧ w'.cell? ⟨g5, 1, none⟩ = some (.slice p.ao p.n p.ca) ∧ w'.cell? ⟨g5, 2, none⟩ = some (.slice p.bo p.m p.cb)) := fun w' hb => by
              obtain ⟨k0, k1, k2, _⟩ := at_block (carry (carry x5.out g6) hb)
              exact ⟨k0, k1, k2⟩
            have hown6 := Lib.hid (row_below hown5.out g6)
            have hlc6 := Lib.hid (hlc5.out.below g6)
            have HB6 : Hid (Below M W3 W6) := HB5.out.trans (g6.mono hM5.out)
            have hM6 : Hid (M ≤ W6.heap.size) := Nat.le_trans hM5.out g6.size
            clear b6 g6 e0 e1 e2 f0 f1 f2 r0 r1 r2 y0 y1 y2 x5 hx5 hX5 hU5 kU kP kO hown5 hlc5 HB5 hM5 HBW5 SG CM GY G0' hg HB5'
            go_upto_region 10 with fail
            go_cut [10, 11] from 46 to 55 (fun vb ve wx => ve = .int .i64 0 ∧ BoxQ W6 (X / Y) 5 vb wx)
            case first =>
              refine wp_region_any (by kernel_rfl) ?_
              refine region_ssa [47, 48, 49, 50, 51, 52, 46, 53, 54, 10, 11] (Below W6.heap.size W6) (ExtT 32 W6.heap.size) (LsP [kV (.slice (some ⟨b, o, none⟩) n ca), kV (.int .i64 (i : Int)), kV (.pointer (some ⟨b, o + i * 3, none⟩)), kV (.agg #[.bool r.s, .slice r.ao r.n r.ca, .slice r.bo r.m r.cb]), kV (.agg #[.bool p.s, .slice p.ao p.n p.ca, .slice p.bo p.m p.cb]), kE (0) (X / Y) (5), kE (0) (X / Y) (5), kQ (X / Y) (5), kV (.int .i64 0), kBox 32 W6.heap.size, kAny, kV (.int .i64 0)]) (OneX 32 10 10 53) (fun f => rfl) (by kernel_rfl) (by kernel_rfl) ?_ ?_ ?_ ?_ (AllFrom.below (n := 12) ?_) ?_
              · exact (Below.refl _ _).drew
              · intro f h; cases h
              · intro jx vx w1 w2 _ h hE; exact LsP.ext (StTL.all (l := [kV (.slice (some ⟨b, o, none⟩) n ca), kV (.int .i64 (i : Int)), kV (.pointer (some ⟨b, o + i * 3, none⟩)), kV (.agg #[.bool r.s, .slice r.ao r.n r.ca, .slice r.bo r.m r.cb]), kV (.agg #[.bool p.s, .slice p.ao p.n p.ca, .slice p.bo p.m p.cb]), kE (0) (X / Y) (5), kE (0) (X / Y) (5), kQ (X / Y) (5), kV (.int .i64 0), kBox 32 W6.heap.size, kAny, kV (.int .i64 0)]) ⟨StT.v _ _, StT.v _ _, StT.v _ _, StT.v _ _, StT.v _ _, StT.e (by decide) _ _ _, StT.e (by decide) _ _ _, StT.q (by decide) _ _, StT.v _ _, StT.box _ _, StT.any _, StT.v _ _, trivial⟩) jx vx w1 w2 h hE
              · intro w1 w2 hB hE; exact hB.trans hE.1
              · refine AllFrom.step (m := 11) (j := 1) rfl ?_ ?_
                · intro D f w1 hD hB hR hp hcl hX
                  refine wpOp_step rfl (fun K hK => ?_)
                  simp only [putAll, Act.put, List.setIfInBounds_toArray, List.set_cons_succ, List.set_cons_zero]
                  go_simp
                  exact hK _ _ ⟨.slice (some ⟨b, o, none⟩) n ca, (by show _ = Act.put _ (some 47) _; simp only [putAll, Act.put, List.setIfInBounds_toArray, List.set_cons_succ, List.set_cons_zero, *]), rfl, ExtT.refl _ _ _, fun h => absurd h (no_of (D := D) (hcl 10) (by kernel_rfl) hD)⟩
                refine AllFrom.step (m := 10) (j := 2) rfl ?_ ?_
                · intro D f w1 hD hB hR hp hcl hX
                  refine wpOp_step rfl (fun K hK => ?_)
                  simp only [putAll, Act.put, List.setIfInBounds_toArray, List.set_cons_succ, List.set_cons_zero]
                  go_simp
                  exact hK _ _ ⟨.int .i64 (i : Int), (by show _ = Act.put _ (some 48) _; simp only [putAll, Act.put, List.setIfInBounds_toArray, List.set_cons_succ, List.set_cons_zero, *]), rfl, ExtT.refl _ _ _, fun h => absurd h (no_of (D := D) (hcl 10) (by kernel_rfl) hD)⟩
                refine AllFrom.step (m := 9) (j := 3) rfl ?_ ?_
                · intro D f w1 hD hB hR hp hcl hX
                  have e0 : f 47 = .slice (some ⟨b, o, none⟩) n ca := (hp_at hp 0 (by kernel_rfl)).2
                  have e1 : f 48 = .int .i64 (i : Int) := (hp_at hp 1 (by kernel_rfl)).2
                  refine wpOp_step rfl (fun K hK => ?_)
                  simp only [putAll, Act.put, List.setIfInBounds_toArray, List.set_cons_succ, List.set_cons_zero]
                  go_simp
                  exact hK _ _ ⟨.pointer (some ⟨b, o + i * 3, none⟩), (by show _ = Act.put _ (some 49) _; simp only [putAll, Act.put, List.setIfInBounds_toArray, List.set_cons_succ, List.set_cons_zero, *]), rfl, ExtT.refl _ _ _, fun h => absurd h (no_of (D := D) (hcl 10) (by kernel_rfl) hD)⟩
                refine AllFrom.step (m := 8) (j := 4) rfl ?_ ?_
                · intro D f w1 hD hB hR hp hcl hX
                  have e2 : f 49 = .pointer (some ⟨b, o + i * 3, none⟩) := (hp_at hp 2 (by kernel_rfl)).2
                  obtain ⟨k0, k1, k2⟩ := KU.out w1 hB
                  obtain ⟨l0, l1, l2⟩ := KP.out w1 hB
                  refine wpOp_step rfl (fun K hK => ?_)
                  simp only [putAll, Act.put, List.setIfInBounds_toArray, List.set_cons_succ, List.set_cons_zero]
                  go_simp
                  exact hK _ _ ⟨.agg #[.bool r.s, .slice r.ao r.n r.ca, .slice r.bo r.m r.cb], (by show _ = Act.put _ (some 50) _; simp only [putAll, Act.put, List.setIfInBounds_toArray, List.set_cons_succ, List.set_cons_zero, *]), rfl, ExtT.refl _ _ _, fun h => absurd h (no_of (D := D) (hcl 10) (by kernel_rfl) hD)⟩
                refine AllFrom.step (m := 7) (j := 5) rfl ?_ ?_
                · intro D f w1 hD hB hR hp hcl hX
                  obtain ⟨k0, k1, k2⟩ := KU.out w1 hB
                  obtain ⟨l0, l1, l2⟩ := KP.out w1 hB
                  refine wpOp_step rfl (fun K hK => ?_)
                  simp only [putAll, Act.put, List.setIfInBounds_toArray, List.set_cons_succ, List.set_cons_zero]
                  go_simp
                  exact hK _ _ ⟨.agg #[.bool p.s, .slice p.ao p.n p.ca, .slice p.bo p.m p.cb], (by show _ = Act.put _ (some 51) _; simp only [putAll, Act.put, List.setIfInBounds_toArray, List.set_cons_succ, List.set_cons_zero, *]), rfl, ExtT.refl _ _ _, fun h => absurd h (no_of (D := D) (hcl 10) (by kernel_rfl) hD)⟩
                refine AllFrom.step (m := 6) (j := 6) rfl ?_ ?_
                · intro D f w1 hD hB hR hp hcl hX
                  have e3 : f 50 = .agg #[.bool r.s, .slice r.ao r.n r.ca, .slice r.bo r.m r.cb] := (hp_at hp 3 (by kernel_rfl)).2
                  have e4 : f 51 = .agg #[.bool p.s, .slice p.ao p.n p.ca, .slice p.bo p.m p.cb] := (hp_at hp 4 (by kernel_rfl)).2
                  refine wpOp_step rfl (fun K hK => ?_)
                  simp only [putAll, Act.put, List.setIfInBounds_toArray, List.set_cons_succ, List.set_cons_zero]
                  go_simp
                  refine (QU.out w1 hB).mono ?_
                  rintro e w2 ⟨s9, a9, n9, c9, o9, m9, d9, rfl, cq, hb⟩
                  go_simp
                  exact hK _ _ ⟨.tuple #[.agg #[.bool s9, .slice a9 n9 c9, .slice o9 m9 d9], .int .i64 0], (by show _ = Act.put _ (some 52) _; simp only [putAll, Act.put, List.setIfInBounds_toArray, List.set_cons_succ, List.set_cons_zero, *]), ⟨_, _, _, _, _, _, _, rfl, cq.mono (Nat.zero_le _)⟩, ExtT.of_below hb hB.size, fun h => absurd h (no_of (D := D) (hcl 10) (by kernel_rfl) hD)⟩
                refine AllFrom.step (m := 5) (j := 7) rfl ?_ ?_
                · intro D f w1 hD hB hR hp hcl hX
                  obtain ⟨s5, a5, n5, c5, o5, m5, d5, e5, q5⟩ := (hp_at hp 5 (by kernel_rfl)).2
                  replace e5 : f 52 = _ := e5
                  refine wpOp_step rfl (fun K hK => ?_)
                  simp only [putAll, Act.put, List.setIfInBounds_toArray, List.set_cons_succ, List.set_cons_zero]
                  go_simp
                  exact hK _ _ ⟨.tuple #[.agg #[.bool s5, .slice a5 n5 c5, .slice o5 m5 d5], .int .i64 0], (by show _ = Act.put _ (some 46) _; simp only [putAll, Act.put, List.setIfInBounds_toArray, List.set_cons_succ, List.set_cons_zero, *]), ⟨_, _, _, _, _, _, _, rfl, q5⟩, ExtT.refl _ _ _, fun h => absurd h (no_of (D := D) (hcl 10) (by kernel_rfl) hD)⟩
                refine AllFrom.step (m := 4) (j := 8) rfl ?_ ?_
                · intro D f w1 hD hB hR hp hcl hX
                  obtain ⟨s6, a6, n6, c6, o6, m6, d6, e6, q6⟩ := (hp_at hp 6 (by kernel_rfl)).2
                  replace e6 : f 46 = _ := e6
                  refine wpOp_step rfl (fun K hK => ?_)
                  simp only [putAll, Act.put, List.setIfInBounds_toArray, List.set_cons_succ, List.set_cons_zero]
                  go_simp
                  exact hK _ _ ⟨.agg #[.bool s6, .slice a6 n6 c6, .slice o6 m6 d6], (by show _ = Act.put _ (some 53) _; simp only [putAll, Act.put, List.setIfInBounds_toArray, List.set_cons_succ, List.set_cons_zero, *]), ⟨_, _, _, _, _, _, _, rfl, q6⟩, ExtT.refl _ _ _, fun h => absurd h (no_of (D := D) (hcl 10) (by kernel_rfl) hD)⟩
                refine AllFrom.step (m := 3) (j := 9) rfl ?_ ?_
                · intro D f w1 hD hB hR hp hcl hX
                  obtain ⟨s6, a6, n6, c6, o6, m6, d6, e6, q6⟩ := (hp_at hp 6 (by kernel_rfl)).2
                  replace e6 : f 46 = _ := e6
                  refine wpOp_step rfl (fun K hK => ?_)
                  simp only [putAll, Act.put, List.setIfInBounds_toArray, List.set_cons_succ, List.set_cons_zero]
                  go_simp
                  exact hK _ _ ⟨.int .i64 0, (by show _ = Act.put _ (some 54) _; simp only [putAll, Act.put, List.setIfInBounds_toArray, List.set_cons_succ, List.set_cons_zero, *]), rfl, ExtT.refl _ _ _, hX⟩
                refine AllFrom.step (m := 2) (j := 10) rfl ?_ ?_
                · intro D f w1 hD hB hR hp hcl hX
                  refine wpOp_step rfl (fun K hK => ?_)
                  simp only [putAll, Act.put, List.setIfInBounds_toArray, List.set_cons_succ, List.set_cons_zero]
                  go_simp
                  exact hK _ _ ⟨.pointer (some ⟨w1.heap.size, 0, none⟩), (by show _ = Act.put _ (some 10) _; simp only [putAll, Act.put, List.setIfInBounds_toArray, List.set_cons_succ, List.set_cons_zero, *]), ⟨w1.heap.size, rfl, hB.size, newBT _ _ _ _ _⟩, ExtT.of_below (below_new _ _) hB.size, fun h => absurd h (no_of (D := D) (hcl 10) (by kernel_rfl) hD)⟩
                refine AllFrom.step (m := 1) (j := 11) rfl ?_ ?_
                · intro D f w1 hD hB hR hp hcl hX
                  obtain ⟨g, eg, hg, hb⟩ := (hp_at hp 9 (by kernel_rfl)).2
                  obtain ⟨s5, a5, n5, c5, o5, m5, d5, ev, hcq⟩ := (hp_at hp 7 (by kernel_rfl)).2
                  replace ev : f 53 = _ := ev
                  replace eg : f 10 = _ := eg
                  obtain ⟨u0, u1, u2, q0, q1, q2, z0, z1, z2⟩ := hb.facts
                  refine wpOp_step rfl (fun K hK => ?_)
                  simp only [putAll, Act.put, List.setIfInBounds_toArray, List.set_cons_succ, List.set_cons_zero]
                  go_simp
                  exact hK _ _ ⟨undef, (by show _ = Act.put _ (none) _; simp only [putAll, Act.put, List.setIfInBounds_toArray, List.set_cons_succ, List.set_cons_zero, *]), trivial, ExtT.set3 hb hg _ _ _, fun _ => by show HoldsT _ _ (f 10) (f 53); rw [eg, ev]; exact HoldsT.new hb _ _ _⟩
                refine AllFrom.step (m := 0) (j := 12) rfl ?_ ?_
                · intro D f w1 hD hB hR hp hcl hX
                  have e8 : f 54 = .int .i64 0 := (hp_at hp 8 (by kernel_rfl)).2
                  refine wpOp_step rfl (fun K hK => ?_)
                  simp only [putAll, Act.put, List.setIfInBounds_toArray, List.set_cons_succ, List.set_cons_zero]
                  go_simp
                  exact hK _ _ ⟨.int .i64 0, (by show _ = Act.put _ (some 11) _; simp only [putAll, Act.put, List.setIfInBounds_toArray, List.set_cons_succ, List.set_cons_zero, *]), rfl, ExtT.refl _ _ _, hX⟩
                exact AllFrom.nil
              · intro D f w1 hall hB hR hX
                simp only [putAll, Act.put, List.setIfInBounds_toArray, List.set_cons_succ, List.set_cons_zero]
                go_wp2_with fail
                go_meet
                exact ⟨hR 11 (by decide), box_cut hB (hR 9 (by decide)) (hX (hall 10 (by decide))) (hR 7 (by decide))⟩
            rename World => W7
            obtain ⟨rfl, g7, s7, a7, n7, c7, o7, m7, d7, rfl, hg7, x7, cq7, b7⟩ := hcut
            obtain ⟨j0, j1, j2, _⟩ := at_block x7
            have CQ7 := Lib.hid cq7
            have hown7 := Lib.hid (row_below hown6.out b7)
            have hlc7 := Lib.hid (hlc6.out.below b7)
            have HB7 : Hid (Below M W3 W7) := HB6.out.trans (b7.mono hM6.out)
            have hM7 : M ≤ W7.heap.size := Nat.le_trans hM6.out b7.size
            clear x7 cq7 b7 hown6 hlc6 HB6 hM6 KU KP QU hg7
            go_wp2_with (at_builtin; refine wpList_append_own _ rfl _ _ 27 rfl M 32 i0 (.agg #[.bool false, .slice none 0 0, .slice none 0 0]) 3 56 Tryz.underlying27 hi hz0 hz1 hz2 rfl (by omega) _ _ _ rfl (hown7.out.alloc _) ⟨W7.heap.size, 0, none⟩ 1 1 [.bool s7, .slice a7 n7 c7, .slice o7 m7 d7] rfl rfl (three_cell _ _ _ _ _) (by intro u hu; simp at hu; rcases hu with rfl | rfl | rfl <;> rfl) (by unfold maxLen; omega) (by omega) (by simp; omega) ?_; intro v8 w8 hown8 hgr8 _)
            have nA := below_new W7 (.cells #[.bool s7, .slice a7 n7 c7, .slice o7 m7 d7] 32)
            have hl8 := (hlc7.out.below nA).keepRow (hown7.out.alloc _) hgr8
            have hq8 := (CQ7.out.below nA).keepRow3 (hown7.out.alloc _) hgr8
            have HL8 : Hid (Lc 0 w8 (es ++ [⟨s7, a7, n7, c7, o7, m7, d7⟩]) ((estL qs ps).take (i + 1)) 5) := by unfold Hid; rw [ET'.out]; exact hl8.snoc hq8
            have HO8 : Hid (w8.ownsRow M 32 3 v8 (i + 1) (rvs (es ++ [⟨s7, a7, n7, c7, o7, m7, d7⟩]))) := by unfold Hid; rw [rvs_append]; exact hown8
            have HB8 : Hid (Below M W3 w8) := HB7.out.trans ((nA.mono hM7).trans (rows_below (hown7.out.alloc _) (Nat.le_refl _) (by simp; omega) hgr8))
            clear nA hl8 hq8 hown8 hgr8 hown7 hlc7 HB7 CQ7 j0 j1 j2
            go_wp2_with fail
            go_roundw
            case rel => exact ⟨i + 1, _, _, by omega, by go_num, rfl, HO8, HL8, HGG, HB8⟩
            case measure => simp [intOf]; omega
          · have hc2 : 0 < C := by omega
            have fin := Lib.hid (G0'.out (by rw [GY.out]; simp; omega))
            go_wp2_with fail
            refine (SG.out _ (Below.refl _ _)).mono ?_; rintro e w5 ⟨rfl, b5⟩
            obtain ⟨e0, e1, e2, _, _, _⟩ := at_block (carry x5.out b5)
            obtain ⟨f0, f1, f2, _, _, _⟩ := at_block (carry hx5.out b5)
            have HB5' := Lib.hid b5
            clear b5 r0 r1 r2 y0 y1 y2
            go_wp2_with fail
            refine (CM.out _ HB5'.out).mono ?_; rintro e w6 ⟨rfl, b6⟩
            have g6 : Below W5.heap.size W5 w6 := HB5'.out.trans (b6.mono HB5'.out.size)
            obtain ⟨t0, t1, t2, y0, y1, y2⟩ := at_block (carry hX5.out g6)
            have HB6 : Hid (Below w.heap.size w w6) := HBW5.out.trans (g6.mono HBW5.out.size)
            clear b6 g6 e0 e1 e2 f0 f1 f2
            go_wp2_with fail
            refine bodyPost_ret (v := .tuple #[.agg #[.bool false, .slice none 0 0, .slice none 0 0], .int .i64 105]) (by simp [results, Tryz.results10, go_sem, t0, t1, t2]) rfl ?_
            rw [fin.out.1, fin.out.2]; exact ⟨2, _, _, _, _, _, _, _, by omega, rfl, cq_zero _ _ 2 (by omega) (by omega), by first | exact HB6.out | exact below3 HB6.out (Nat.le_refl _) _ _ _⟩
      · obtain rfl : i = n := by omega
        have hlt2 : ¬ (i : Int) < (i : Int) := by omega
        have fin := Lib.hid (G1.out hgd.out)
        obtain ⟨ro, rc, rfl, hrd⟩ := RdR.of_row hown.out
        have hls : Ls wr es (estL qs ps) 5 := by have := hlc.out.ls; rwa [EA.out] at this
        have hel : es.length = i := by rw [hlc.out.1, EA.out, estL_len (by rw [HQ.out.1.symm, HP.out.1.symm, ← HN.out, ← HM.out]), ← HP.out.1, ← HM.out]
        have SK := Lib.hid (Sum_k 5 (by omega) (by omega) (estL qs ps) ro rc es wr hrd (by omega) hls)
        rw [hel] at SK
        rw [hel]
        have hX9 := Lib.hid (carry X3.out hbl3.out)
        have hz : w.heap.size < wr.heap.size := (Array.getElem?_eq_some_iff.1 hX9.out).1
        clear hrd hls hel hown hlc hgd HU HV HN HM HQ HP G0 G1 ET EA EZ
        go_wp2_with fail
        refine SK.out.mono ?_; rintro e w9 ⟨s9, a9, n9, c9, o9, m9, d9, rfl, cq9, b9⟩
        obtain ⟨t0, t1, t2, y0, y1, y2⟩ := at_block (carry hX9.out b9)
        have HB9 : Hid (Below w.heap.size w w9) := HBW.out.trans (b9.mono HBW.out.size)
        have C9 := Lib.hid cq9
        clear b9 cq9 SK
        go_wp2_with fail
        refine bodyPost_ret (v := .tuple #[.agg #[.bool s9, .slice a9 n9 c9, .slice o9 m9 d9], .int .i64 0]) (by simp [results, Tryz.results10, go_sem, t0, t1, t2]) rfl ?_
        have h9 := C9.out.mono (B' := w.heap.size + 1) (by omega)
        rw [fin.out.1, fin.out.2]; exact ⟨_, _, _, _, _, _, _, _, kq_le (by omega) (by omega), rfl, (((h9.set_at _ _).set_at _ _).set_at _ _).mono (by omega), below3 HB9.out (Nat.le_refl _) _ _ _⟩
end Go.Proofs.YtmhjimcdiglpcaaGreatDoor
