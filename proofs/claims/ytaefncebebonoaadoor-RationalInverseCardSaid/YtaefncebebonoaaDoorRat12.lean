import Derived.Test.YtaefncebebonoaaDoorRat9
/- Contracts: a number rounded to decimals. -/
namespace Go.Proofs.YtaefncebebonoaaDoor
open Go.RowKit

set_option maxHeartbeats 4000000 in
set_option maxRecDepth 100000 in
theorem Round_q (s : Bool) (ao bo : Option Addr) (n ca m cb k j : Nat) (i : Int) (q : Rat) (w : World) (h : RQ w s ao n ca bo m cb q k) (hk : k ≤ 100000) (hi : min (max i 0) 12 = (j : Int)) :
    Calls Tryd.prog 32 #[.agg #[.bool s, .slice ao n ca, .slice bo m cb], .int .i64 i] w (MakesQ (rnd s (rn q) q.den (10 ^ j)) (k + 300) w) := by
  have hj : j ≤ 12 := by omega
  obtain ⟨W1, hW1, hsz, B0, X0, K⟩ := boxes1 w s ao n ca bo m cb
  have HX : Hid (∀ w', Below (w.heap.size + 1) W1 w' → RQ w' s ao n ca bo m cb q k) := fun w' hb => h.below (B0.trans (hb.mono (by omega)))
  have HSZ := Lib.hid hsz
  have HI := Lib.hid hi
  have s2 : Sm (10 ^ j) (k + 300) := (ten_sm (by omega : j ≤ 60)).up (by omega) (by omega)
  have tp : 0 < 10 ^ j := Nat.pow_pos (by omega)
  obtain ⟨T, hT⟩ : ∃ T, T = 10 ^ j := ⟨_, rfl⟩
  have CT : Hid (∀ w', Calls Tryd.prog 66 #[.int .i64 (j : Int)] w' (Makes T w')) := fun w' => by rw [hT]; exact tens_num j (by omega) _ rfl w'
  have CS : Hid (∀ w', RQ w' s ao n ca bo m cb q k → Calls Tryd.prog 65 #[.agg #[.bool s, .slice ao n ca, .slice bo m cb], .int .i64 (j : Int)] w' fun e w'' => Makes (ru (rn q) q.den T) w' e w'' ∧ Sm (ru (rn q) q.den T) (k + 300)) := fun w' h' => by rw [hT]; exact scaled_q s ao bo n ca m cb k j q w' h' hk (by omega)
  have CD : Hid (∀ w', Calls Tryd.prog 64 #[.int .i64 i] w' fun e w'' => e = .returned (.int .i64 (j : Int)) ∧ w' = w'') := fun w' => decimals_num i j HI.out w'
  rw [← hT] at s2 tp ⊢
  obtain ⟨U, hU⟩ : ∃ U, U = ru (rn q) q.den T := ⟨_, rfl⟩
  rw [← hU] at CS
  have HQ : Hid (rq s U T = rnd s (rn q) q.den T) := by show _ = _; rw [hU]; rfl
  clear h hsz hi hj hT hU
  go_enter Tryd.func32, Tryd.ntmps32
  go_wp2_with fail
  rw [← hW1]
  clear hW1
  refine (CD.out _).mono ?_; rintro e w' ⟨rfl, rfl⟩
  go_wp2_with fail
  go_region_held3 (fun w' => w'.cell? ⟨w.heap.size, 0, none⟩ = some (.bool s) ∧ w'.cell? ⟨w.heap.size, 1, none⟩ = some (.slice ao n ca) ∧ w'.cell? ⟨w.heap.size, 2, none⟩ = some (.slice bo m cb) ∧ Box3 w' (w.heap.size + 1) ∧ Below (w.heap.size + 1) W1 w')
    (first | exact K.out _ (Below.refl _ _).drew X0.drew | exact K.out _ (keepB b1 (by assumption) HSZ.out) (Box3.below (by assumption) b1) | exact K.out _ (keepB b4 (by assumption) HSZ.out) (Box3.below (by assumption) b4) | exact K.out _ BW XW | exact K.out _ (below3 BW (Nat.le_refl _) _ _ _) (XW.set3 _ _ _))
    (first
      | (go_at_call 65; go_split_ands; refine (CS.out _ (HX.out _ (by assumption))).mono ?_; rintro e W2 ⟨⟨a1, c1, rfl, f1, b1⟩, s1⟩)
      | (go_at_call 66; go_split_ands; refine (CT.out _).mono ?_; rintro e W4 ⟨a4, c4, rfl, f4, b4⟩)
      | (go_at_call 43; go_split_ands; refine (reduced_any s a1 a4 _ c1 _ c4 U T (k + 300) _ (Num.of_fr (f1.below b4) s1) (Num.of_fr f4 s2) tp s1 s2).mono ?_; rintro e W3 ⟨s3, a3, n3, c3, o3, m3, d3, rfl, hcq, b2⟩; have BW : Below (w.heap.size + 1) W1 W3 := keepB b2 (by assumption) HSZ.out; have XW : Box3 W3 (w.heap.size + 1) := Box3.below (by assumption) b2; obtain ⟨u0, u1, u2, q0, q1, q2, z0, z1, z2⟩ := XW.facts))
  go_wp2_with fail
  refine bodyPost_ret (v := .agg #[.bool s3, .slice a3 n3 c3, .slice o3 m3 d3]) (by simp [results, Tryd.results32, go_sem, q0, q1, q2]) rfl ?_
  exact MakesQ.lift hcq HQ.out (Box3.lt (by assumption)) (by omega) (B0.trans (BW.mono (by omega))) _ _ _
end Go.Proofs.YtaefncebebonoaaDoor
