import Derived.Test.YtobiepkhommeaaaGreatDoorRat9
import Derived.Test.YtobiepkhommeaaaGreatDoorPowsZ
/- Contracts: a number rounded to decimals. -/
namespace Go.Proofs.YtobiepkhommeaaaGreatDoor
open Go.RowKit

end Go.Proofs.YtobiepkhommeaaaGreatDoor
/- Contracts: the reference's rounding. -/
namespace Go.Proofs.YtobiepkhommeaaaGreatDoor
open Go.RowKit

theorem lit_two (w : World) : Num (w.alloc (.cells #[.int .u32 2] 35)) (some ⟨w.heap.size, 0, none⟩) 1 1 2 :=
  ⟨[2], rfl, rd_new w _ [2] rfl (lims_cons (by omega) lims_nil) 1 rfl (by omega), rfl, by decide⟩
theorem lit_ten (w : World) : Num (w.alloc (.cells #[.int .u32 10] 35)) (some ⟨w.heap.size, 0, none⟩) 1 1 10 :=
  ⟨[10], rfl, rd_new w _ [10] rfl (lims_cons (by omega) lims_nil) 1 rfl (by omega), rfl, by decide⟩
set_option maxHeartbeats 400000 in
set_option maxRecDepth 100000 in
theorem Clamp_num (i : Int) (j : Nat) (hi : min (max i 0) 12 = (j : Int)) (w : World) : Calls Tryz.prog 87 #[.int .i64 i] w fun e w' => e = .returned (.int .i64 (j : Int)) ∧ w = w' := by
  go_enter Tryz.func87, Tryz.ntmps87
  go_wp2_with fail
  go_ret
  exact ⟨rfl, rfl⟩
theorem raise_ten {ao : Option Addr} {n ca j : Nat} {w : World} (ha : Num w ao n ca 10) (hj : j ≤ 12) : Calls Tryz.prog 117 #[.slice ao n ca, .int .i64 (j : Int)] w (Makes (10 ^ j) w) := by
  refine Raise_num (K := 201) ha (by omega) ?_
  have h := (ten_sm (j := j) (by omega)).1
  refine ⟨?_, by omega⟩
  rw [show (201 : Nat) = 200 + 1 from rfl, pw_succ]
  generalize 10 ^ j = c at h ⊢
  omega

set_option maxHeartbeats 4000000 in
set_option maxRecDepth 100000 in
theorem units_q (s : Bool) (ao bo : Option Addr) (n ca m cb k j : Nat) (q : Rat) (w : World) (h : RQ w s ao n ca bo m cb q k) (hk : k ≤ 100000) (hj : j ≤ 12) :
    Calls Tryz.prog 88 #[.agg #[.bool s, .slice ao n ca, .slice bo m cb], .int .i64 (j : Int)] w fun e w' => Makes (ru (rn q) q.den (10 ^ j)) w e w' ∧ Sm (ru (rn q) q.den (10 ^ j)) (k + 300) := by
  obtain ⟨N, D, hn, hd, sn, sd, hq, sdn⟩ := h
  obtain ⟨W1, hW1⟩ : ∃ W1, W1 = (w.alloc (.cells #[.bool s, .slice ao n ca, .slice bo m cb] 25)).alloc (.cells #[.int .u32 2] 35) := ⟨_, rfl⟩
  have hsz : W1.heap.size = w.heap.size + 1 + 1 := by rw [hW1]; simp
  have B0 : Below w.heap.size w W1 := by rw [hW1]; exact (below_new w _).alloc (by simp) _
  have x0 : W1.heap[w.heap.size]? = some (.cells #[.bool s, .slice ao n ca, .slice bo m cb] 25 (0, 0)) := by
    rw [hW1, Below.heap_alloc _ _ _ (by simp)]; exact heap_alloc_new w _
  have t0 : Num W1 (some ⟨w.heap.size + 1, 0, none⟩) 1 1 2 := by
    rw [hW1]; have := lit_two (w.alloc (.cells #[.bool s, .slice ao n ca, .slice bo m cb] 25)); rwa [World.size_alloc] at this
  have hn1 := hn.below B0
  have hd1 := hd.below B0
  have hru := ru_rat (s := s) (N := N) (T := 10 ^ j) (dn_pos D)
  rw [hq] at hru
  have s10 := ten_sm (j := j) (by omega)
  have s2 : Sm 2 1 := ⟨by simp [pw], by omega⟩
  have sT := sn.mul s10 (by omega)
  have sT2 : Sm (N * 10 ^ j * 2) (k + 201) := (sT.mul s2 (by omega)).up (by omega) (by omega)
  have sS := sT2.add sdn (by omega)
  have sE := sdn.mul s2 (by omega)
  obtain ⟨R, hR⟩ : ∃ R, R = ru N (dn D) (10 ^ j) := ⟨_, rfl⟩
  obtain ⟨tw, htw⟩ : ∃ tw : Nat, tw = 2 := ⟨_, rfl⟩
  obtain ⟨T, hT⟩ : ∃ T, T = 10 ^ j := ⟨_, rfl⟩
  have hdiv : (N * 10 ^ j * 2 + dn D) / (dn D * 2) = R := by rw [hR]; rfl
  have sR : Sm R (k + 300) := by
    have h1 := sT2.1
    have h2 := sdn.1
    refine ⟨?_, by omega⟩
    have h3 : R ≤ N * 10 ^ j * 2 + dn D := by rw [hR]; exact ru_le
    have h5 : pw (k + 201) + pw k ≤ pw (k + 300) := by
      have a1 : pw (k + 201 + 1) ≤ pw (k + 300) := pw_mono (by omega)
      have a2 : pw k ≤ pw (k + 201) := pw_mono (by omega)
      rw [pw_succ] at a1
      omega
    omega
  rw [← hru, ← hR]
  have RT : Hid (∀ w' g, Num w' (some ⟨g, 0, none⟩) 1 1 10 → Calls Tryz.prog 117 #[.slice (some ⟨g, 0, none⟩) 1 1, .int .i64 (j : Int)] w' (Makes T w')) := fun w' g h => by rw [hT]; exact raise_ten h hj
  rw [← hT] at s10 sT
  rw [← hT, ← htw] at sT2 sS hdiv
  rw [← htw] at s2 sE t0
  have HD := Lib.hid hdiv
  have DP := Lib.hid (show 0 < dn D * tw by have := dn_pos D; rw [htw]; omega)
  have K : Hid (∀ w', Below W1.heap.size W1 w' → w'.cell? ⟨w.heap.size, 0, none⟩ = some (.bool s) ∧ w'.cell? ⟨w.heap.size, 1, none⟩ = some (.slice ao n ca) ∧ w'.cell? ⟨w.heap.size, 2, none⟩ = some (.slice bo m cb) ∧ Below W1.heap.size W1 w') := fun w' hb => by
    obtain ⟨a, b, c, _⟩ := at_block ((hb.block w.heap.size (by omega)).trans x0)
    exact ⟨a, b, c, hb⟩
  clear hn hd hq hru hR hdiv sd htw hT x0 hsz
  go_enter Tryz.func88, Tryz.ntmps88
  go_wp2_with fail
  rw [← hW1]
  clear hW1
  go_region_held3 (fun w' => w'.cell? ⟨w.heap.size, 0, none⟩ = some (.bool s) ∧ w'.cell? ⟨w.heap.size, 1, none⟩ = some (.slice ao n ca) ∧ w'.cell? ⟨w.heap.size, 2, none⟩ = some (.slice bo m cb) ∧ Below W1.heap.size W1 w')
    (first | exact K.out _ (Below.refl _ _).drew | exact K.out _ ((Below.refl _ _).drew.alloc (Nat.le_refl _) _) | exact K.out _ (keepB b3 (by assumption) (Nat.le_refl _)) | exact K.out _ (keepB b4 (by assumption) (Nat.le_refl _)) | exact K.out _ (keepB b5 (by assumption) (Nat.le_refl _)))
    (first
      | (go_at_call 117; go_split_ands; refine (RT.out _ W1.heap.size (lit_ten W1.drew)).mono ?_; rintro e W3 ⟨a3, c3, rfl, f3, b3⟩; have BA : Below W1.heap.size W1 W3 := keepB b3 (by assumption) (Nat.le_refl _))
      | (go_at_call_of 55 (Value.slice ao n ca); go_split_ands; refine (rMul_num (hn1.below BA) (Num.of_fr f3 s10)).mono ?_; rintro e W4 ⟨a4, c4, rfl, f4, b4⟩; have BB : Below W1.heap.size W1 W4 := keepB b4 BA (Nat.le_refl _))
      | (go_at_call_of 55 (Value.slice a4 (dig (N * T)).length c4); go_split_ands; refine (rMul_num (Num.of_fr f4 sT) (t0.below BB)).mono ?_; rintro e W5 ⟨a5, c5, rfl, f5, b5⟩; have BC : Below W1.heap.size W1 W5 := keepB b5 BB (Nat.le_refl _)))
  go_wp2_with fail
  have num5 := Num.of_fr f5 sT2
  replace num5 := num5.below (w' := W5.drew) (Below.refl _ _).drew
  have hd5 := (hd1.below BC).below (w' := W5.drew) (Below.refl _ _).drew
  have t5 := (t0.below BC).below (w' := W5.drew) (Below.refl _ _).drew
  have BW := B0.trans (BC.mono B0.size)
  clear hn1 hd1 t0 f3 f4 f5 b3 b4 b5 BA BB sT
  go_region_held3 (fun w' => w'.cell? ⟨w.heap.size, 0, none⟩ = some (.bool s) ∧ w'.cell? ⟨w.heap.size, 1, none⟩ = some (.slice ao n ca) ∧ w'.cell? ⟨w.heap.size, 2, none⟩ = some (.slice bo m cb) ∧ Below W1.heap.size W1 w')
    (first | exact K.out _ BC.drew | exact K.out _ (keepB b6 (by assumption) (Nat.le_refl _)) | exact K.out _ (keepB b7 (by assumption) (Nat.le_refl _)) | exact K.out _ (keepB b8 (by assumption) (Nat.le_refl _)) | exact K.out _ (keepB b9 (by assumption) (Nat.le_refl _)) | exact K.out _ (keepB b10 (by assumption) (Nat.le_refl _)))
    (first
      | (go_at_call 104; go_split_ands; refine (rDivide_numD (Num.of_fr (f7.below (keepB b9 b8 (Nat.le_refl _))) sS) (Num.of_fr f9 sE) DP.out HD.out rfl).mono ?_; rintro e W10 ⟨qo, qc, ro, rc, rfl, fq, fr, b10⟩)
      | (go_at_call 58; go_split_ands; refine (rAdd_num (num5.below b6) (Num.of_fr f6 sdn)).mono ?_; rintro e W7 ⟨a7, c7, rfl, f7, b7⟩)
      | (go_at_call 55; go_split_ands; refine (rMul_num (Num.of_fr f8 sdn) ((t5.below b6).below (keepB b8 b7 (Nat.le_refl _)))).mono ?_; rintro e W9 ⟨a9, c9, rfl, f9, b9⟩)
      | (go_at_call 56; go_split_ands; refine (rden_num s ao bo n ca m cb D _ (hd5.below (keepB b7 b6 (Nat.le_refl _)))).mono ?_; rintro e W8 ⟨a8, c8, rfl, f8, b8⟩)
      | (go_at_call 56; go_split_ands; refine (rden_num s ao bo n ca m cb D _ hd5).mono ?_; rintro e W6 ⟨a6, c6, rfl, f6, b6⟩))
  have BZ : Below W1.heap.size W1 W10 := (K.out W10 (keepB b10 (by assumption) (Nat.le_refl _))).2.2.2
  go_wp2_with fail
  go_ret
  exact ⟨⟨qo, qc, rfl, fq.mono (by first | exact Nat.le_trans B0.size (Below.size (by assumption)) | omega), B0.trans (BZ.mono B0.size)⟩, sR⟩

set_option maxHeartbeats 4000000 in
set_option maxRecDepth 100000 in
theorem rRound_q (s : Bool) (ao bo : Option Addr) (n ca m cb k j : Nat) (i : Int) (q : Rat) (w : World) (h : RQ w s ao n ca bo m cb q k) (hk : k ≤ 100000) (hi : min (max i 0) 12 = (j : Int)) :
    Calls Tryz.prog 70 #[.agg #[.bool s, .slice ao n ca, .slice bo m cb], .int .i64 i] w (MakesQ (rnd s (rn q) q.den (10 ^ j)) (k + 300) w) := by
  have hj : j ≤ 12 := by omega
  obtain ⟨W1, hW1, hsz, B0, X0, K⟩ := boxes1 w s ao n ca bo m cb
  have HX : Hid (∀ w', Below (w.heap.size + 1) W1 w' → RQ w' s ao n ca bo m cb q k) := fun w' hb => h.below (B0.trans (hb.mono (by omega)))
  have HSZ := Lib.hid hsz
  have HI := Lib.hid hi
  have s2 : Sm (10 ^ j) (k + 300) := (ten_sm (by omega : j ≤ 60)).up (by omega) (by omega)
  have tp : 0 < 10 ^ j := Nat.pow_pos (by omega)
  obtain ⟨T, hT⟩ : ∃ T, T = 10 ^ j := ⟨_, rfl⟩
  have RT : Hid (∀ w' g, Num w' (some ⟨g, 0, none⟩) 1 1 10 → Calls Tryz.prog 117 #[.slice (some ⟨g, 0, none⟩) 1 1, .int .i64 (j : Int)] w' (Makes T w')) := fun w' g h => by rw [hT]; exact raise_ten h hj
  have CS : Hid (∀ w', RQ w' s ao n ca bo m cb q k → Calls Tryz.prog 88 #[.agg #[.bool s, .slice ao n ca, .slice bo m cb], .int .i64 (j : Int)] w' fun e w'' => Makes (ru (rn q) q.den T) w' e w'' ∧ Sm (ru (rn q) q.den T) (k + 300)) := fun w' h' => by rw [hT]; exact units_q s ao bo n ca m cb k j q w' h' hk (by omega)
  have CD : Hid (∀ w', Calls Tryz.prog 87 #[.int .i64 i] w' fun e w'' => e = .returned (.int .i64 (j : Int)) ∧ w' = w'') := fun w' => Clamp_num i j HI.out w'
  rw [← hT] at s2 tp ⊢
  obtain ⟨U, hU⟩ : ∃ U, U = ru (rn q) q.den T := ⟨_, rfl⟩
  rw [← hU] at CS
  have HQ : Hid (rq s U T = rnd s (rn q) q.den T) := by show _ = _; rw [hU]; rfl
  clear h hsz hi hj hT hU
  go_enter Tryz.func70, Tryz.ntmps70
  go_wp2_with fail
  rw [← hW1]
  clear hW1
  refine (CD.out _).mono ?_; rintro e w' ⟨rfl, rfl⟩
  go_wp2_with fail
  go_region_held3 (fun w' => w'.cell? ⟨w.heap.size, 0, none⟩ = some (.bool s) ∧ w'.cell? ⟨w.heap.size, 1, none⟩ = some (.slice ao n ca) ∧ w'.cell? ⟨w.heap.size, 2, none⟩ = some (.slice bo m cb) ∧ Box3 w' (w.heap.size + 1) ∧ Below (w.heap.size + 1) W1 w')
    (first | exact K.out _ (Below.refl _ _).drew X0.drew | exact K.out _ ((Below.refl _ _).drew.alloc HSZ.out _) (Box3.below X0.drew (below_new _ _)) | exact K.out _ (keepB b1 (by assumption) HSZ.out) (Box3.below (by assumption) b1) | exact K.out _ (keepB b4 (by assumption) HSZ.out) (Box3.below (by assumption) b4) | exact K.out _ (BU.alloc (Nat.le_trans HSZ.out BU.size) _) (XU.below (below_new _ _)) | exact K.out _ BW XW | exact K.out _ (below3 BW (Nat.le_refl _) _ _ _) (XW.set3 _ _ _))
    (first
      | (go_at_call 88; go_split_ands; refine (CS.out _ (HX.out _ (by assumption))).mono ?_; rintro e W2 ⟨⟨a1, c1, rfl, f1, b1⟩, s1⟩; have BU : Below (w.heap.size + 1) W1 W2 := keepB b1 (by assumption) HSZ.out; have XU : Box3 W2 (w.heap.size + 1) := Box3.below (by assumption) b1)
      | (go_at_call_of 117 (Value.slice (some ⟨W2.heap.size, 0, none⟩) 1 1); go_split_ands; refine (RT.out _ W2.heap.size (lit_ten W2)).mono ?_; rintro e W4 ⟨a4, c4, rfl, f4, b4⟩; have g1 := (f1.alloc _).below b4)
      | (go_at_call_of 117 (Value.slice (some ⟨W1.heap.size, 0, none⟩) 1 1); go_split_ands; refine (RT.out _ W1.heap.size ((lit_ten W1.drew).below b1)).mono ?_; rintro e W4 ⟨a4, c4, rfl, f4, b4⟩; have g1 := f1.below b4)
      | (go_at_call 57; go_split_ands; refine (made_any s a1 a4 _ c1 _ c4 U T (k + 300) _ (Num.of_fr g1 s1) (Num.of_fr f4 s2) tp s1 s2).mono ?_; rintro e W3 ⟨s3, a3, n3, c3, o3, m3, d3, rfl, hcq, b2⟩; have BW : Below (w.heap.size + 1) W1 W3 := keepB b2 (by assumption) HSZ.out; have XW : Box3 W3 (w.heap.size + 1) := Box3.below (by assumption) b2; obtain ⟨u0, u1, u2, q0, q1, q2, z0, z1, z2⟩ := XW.facts))
  all_goals
    go_wp2_with fail
    refine bodyPost_ret (v := .agg #[.bool s3, .slice a3 n3 c3, .slice o3 m3 d3]) (by simp [results, Tryz.results70, go_sem, q0, q1, q2]) rfl ?_
    exact MakesQ.lift hcq HQ.out (by have := Box3.lt (w := W4) (g := w.heap.size + 1) (by assumption); exact this) (by omega) (B0.trans (BW.mono (by omega))) _ _ _
end Go.Proofs.YtobiepkhommeaaaGreatDoor
