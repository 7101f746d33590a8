import Derived.Test.YtdcnkebcpaelpaaGreatDoorRat4
/- Contract of the reference's Add. -/
namespace Go.Proofs.YtdcnkebcpaelpaaGreatDoor
open Go.RowKit

set_option maxHeartbeats 8000000 in
set_option maxRecDepth 100000 in
theorem rAdd_q (s t : Bool) (ao bo po qo : Option Addr) (n ca m cb l cl j cj k : Nat) (p q : Rat) (w : World) (h1 : RQ w s ao n ca bo m cb p k) (h2 : RQ w t po l cl qo j cj q k) (hk : k + k + 1 ≤ 549755813888) :
    Calls Tryz.prog 14 #[.agg #[.bool s, .slice ao n ca, .slice bo m cb], .agg #[.bool t, .slice po l cl, .slice qo j cj]] w (MakesQ (p + q) (k + k + 1) w) := by
  obtain ⟨N, D, hn, hd, sn, sd, hqx, sdn⟩ := h1
  obtain ⟨M, E, hm, he, sm, se, hqy, sen⟩ := h2
  obtain ⟨W1, hW1, hsz, B0, X0, K⟩ := boxes2 w s t ao bo po qo n ca m cb l cl j cj
  have HX : Hid (∀ w', Below (w.heap.size + 1 + 1) W1 w' → Num w' ao n ca N ∧ Num w' bo m cb D) := fun w' hb => ⟨hn.below (B0.trans (hb.mono (by omega))), hd.below (B0.trans (hb.mono (by omega)))⟩
  have HY : Hid (∀ w', Below (w.heap.size + 1 + 1) W1 w' → Num w' po l cl M ∧ Num w' qo j cj E) := fun w' hb => ⟨hm.below (B0.trans (hb.mono (by omega))), he.below (B0.trans (hb.mono (by omega)))⟩
  have sK : ∀ a b : Nat, Sm a k → Sm b k → Sm (a * b) (k + k + 1) := fun a b x y => (x.mul y (by omega)).up (by omega) hk
  have HQS : Hid (∀ u P, sg u P = sg s (N * dn E) + sg t (M * dn D) → rq u P (dn D * dn E) = p + q) := fun u P hu => by rw [rq_add (dn_pos D) (dn_pos E) hu, hqx, hqy]
  have sS : ∀ P, P ≤ N * dn E + M * dn D → Sm P (k + k + 1) := fun P hP => by
    have h1 := (sn.mul sen (by omega)).1
    have h2 := (sm.mul sdn (by omega)).1
    refine ⟨?_, hk⟩
    rw [pw_succ]; have := pw_pos (k + k); omega
  have HSZ := Lib.hid hsz
  have dp := dn_pos D
  have ep := dn_pos E
  clear hn hd sd hm he se hqx hqy hsz
  go_enter Tryz.func14, Tryz.ntmps14
  go_wp2_with fail
  rw [← hW1]
  clear hW1
  go_region_held3 (fun w' => w'.cell? ⟨w.heap.size, 0, none⟩ = some (.bool s) ∧ w'.cell? ⟨w.heap.size, 1, none⟩ = some (.slice ao n ca) ∧ w'.cell? ⟨w.heap.size, 2, none⟩ = some (.slice bo m cb) ∧ w'.cell? ⟨w.heap.size + 1, 0, none⟩ = some (.bool t) ∧ w'.cell? ⟨w.heap.size + 1, 1, none⟩ = some (.slice po l cl) ∧ w'.cell? ⟨w.heap.size + 1, 2, none⟩ = some (.slice qo j cj) ∧ Box3 w' (w.heap.size + 1 + 1) ∧ Below (w.heap.size + 1 + 1) W1 w')
    (first | exact K.out _ (Below.refl _ _).drew X0.drew | exact K.out _ (keepB b1 (by assumption) HSZ.out) (Box3.below (by assumption) b1) | exact K.out _ (keepB b2 (by assumption) HSZ.out) (Box3.below (by assumption) b2))
    (first
      | (go_at_call_of 31 (Value.agg #[.bool t, .slice po l cl, .slice qo j cj]); go_split_ands; refine (rden_num t po qo l cl j cj E _ (HY.out _ (by assumption)).2).mono ?_; rintro e W2 ⟨x1, y1, rfl, g1, b1⟩)
      | (go_at_call_of 30 (Value.slice ao n ca); go_split_ands; refine (rMul_num (HX.out _ (by assumption)).1 (Num.of_fr g1 sen)).mono ?_; rintro e W3 ⟨pa, da, rfl, fa, b2⟩; have BA : Below (w.heap.size + 1 + 1) W1 W3 := keepB b2 (by assumption) HSZ.out; have XA : Box3 W3 (w.heap.size + 1 + 1) := Box3.below (by assumption) b2))
  replace fa := fa.below (w' := W3.drew) (Below.refl _ _).drew
  go_wp2_with fail
  go_region_held3 (fun w' => w'.cell? ⟨w.heap.size, 0, none⟩ = some (.bool s) ∧ w'.cell? ⟨w.heap.size, 1, none⟩ = some (.slice ao n ca) ∧ w'.cell? ⟨w.heap.size, 2, none⟩ = some (.slice bo m cb) ∧ w'.cell? ⟨w.heap.size + 1, 0, none⟩ = some (.bool t) ∧ w'.cell? ⟨w.heap.size + 1, 1, none⟩ = some (.slice po l cl) ∧ w'.cell? ⟨w.heap.size + 1, 2, none⟩ = some (.slice qo j cj) ∧ Box3 w' (w.heap.size + 1 + 1) ∧ Below (w.heap.size + 1 + 1) W1 w')
    (first | exact K.out _ BA.drew XA.drew | exact K.out _ (keepB b3 (by assumption) HSZ.out) (Box3.below (by assumption) b3) | exact K.out _ (keepB b4 (by assumption) HSZ.out) (Box3.below (by assumption) b4))
    (first
      | (go_at_call_of 31 (Value.agg #[.bool s, .slice ao n ca, .slice bo m cb]); go_split_ands; refine (rden_num s ao bo n ca m cb D _ (HX.out _ (by assumption)).2).mono ?_; rintro e W4 ⟨x3, y3, rfl, g3, b3⟩)
      | (go_at_call_of 30 (Value.slice po l cl); go_split_ands; refine (rMul_num (HY.out _ (by assumption)).1 (Num.of_fr g3 sdn)).mono ?_; rintro e W5 ⟨pb, db, rfl, fb, b4⟩; have BB : Below (w.heap.size + 1 + 1) W1 W5 := keepB b4 (by assumption) HSZ.out; have XB : Box3 W5 (w.heap.size + 1 + 1) := Box3.below (by assumption) b4; replace fa := (fa.below b3).below b4))
  replace fa := fa.below (w' := W5.drew) (Below.refl _ _).drew
  replace fb := fb.below (w' := W5.drew) (Below.refl _ _).drew
  go_wp2_with fail
  go_region_held3 (fun w' => w'.cell? ⟨w.heap.size, 0, none⟩ = some (.bool s) ∧ w'.cell? ⟨w.heap.size, 1, none⟩ = some (.slice ao n ca) ∧ w'.cell? ⟨w.heap.size, 2, none⟩ = some (.slice bo m cb) ∧ w'.cell? ⟨w.heap.size + 1, 0, none⟩ = some (.bool t) ∧ w'.cell? ⟨w.heap.size + 1, 1, none⟩ = some (.slice po l cl) ∧ w'.cell? ⟨w.heap.size + 1, 2, none⟩ = some (.slice qo j cj) ∧ Box3 w' (w.heap.size + 1 + 1) ∧ Below (w.heap.size + 1 + 1) W1 w')
    (first | exact K.out _ BB.drew XB.drew | exact K.out _ (keepB b5 (by assumption) HSZ.out) (Box3.below (by assumption) b5) | exact K.out _ (keepB b6 (by assumption) HSZ.out) (Box3.below (by assumption) b6) | exact K.out _ (keepB b7 (by assumption) HSZ.out) (Box3.below (by assumption) b7))
    (first
      | (go_at_call_of 31 (Value.agg #[.bool s, .slice ao n ca, .slice bo m cb]); go_split_ands; refine (rden_num s ao bo n ca m cb D _ (HX.out _ (by assumption)).2).mono ?_; rintro e W6 ⟨x5, y5, rfl, g5, b5⟩)
      | (go_at_call_of 31 (Value.agg #[.bool t, .slice po l cl, .slice qo j cj]); go_split_ands; refine (rden_num t po qo l cl j cj E _ (HY.out _ (by assumption)).2).mono ?_; rintro e W7 ⟨x6, y6, rfl, g6, b6⟩)
      | (go_at_call_of 30 (Value.slice x5 (dig (dn D)).length y5); go_split_ands; refine (rMul_num (Num.of_fr (g5.below b6) sdn) (Num.of_fr g6 sen)).mono ?_; rintro e W8 ⟨pd, dd', rfl, fd, b7⟩; have BC : Below (w.heap.size + 1 + 1) W1 W8 := keepB b7 (by assumption) HSZ.out; have XC : Box3 W8 (w.heap.size + 1 + 1) := Box3.below (by assumption) b7; replace fa := ((fa.below b5).below b6).below b7; replace fb := ((fb.below b5).below b6).below b7))
  have na := Num.of_fr fa (sK _ _ sn sen)
  have nb := Num.of_fr fb (sK _ _ sm sdn)
  have nd := Num.of_fr fd (sK _ _ sdn sen)
  clear b1 b2 b3 b4 b5 b6 b7 g1 g3 g5 g6 BA XA BB XB fa fb fd
  obtain ⟨e0, e1, e2, e3, e4, e5, _⟩ := K.out _ BC XC
  by_cases hst : s = t
  · have hd : (s == t) = true := beq_iff_eq.2 hst
    have HE := Lib.hid (show sg s (N * dn E + M * dn D) = sg s (N * dn E) + sg t (M * dn D) by rw [← hst]; exact sg_add _ _ _)
    have HQ := Lib.hid (HQS.out _ _ HE.out)
    clear hst
    go_wp2_with fail
    replace na := na.below (w' := W8.drew) (Below.refl _ _).drew
    replace nb := nb.below (w' := W8.drew) (Below.refl _ _).drew
    replace nd := nd.below (w' := W8.drew) (Below.refl _ _).drew
    clear e0 e1 e2 e3 e4 e5
    go_region_held3 (fun w' => w'.cell? ⟨w.heap.size, 0, none⟩ = some (.bool s) ∧ w'.cell? ⟨w.heap.size, 1, none⟩ = some (.slice ao n ca) ∧ w'.cell? ⟨w.heap.size, 2, none⟩ = some (.slice bo m cb) ∧ w'.cell? ⟨w.heap.size + 1, 0, none⟩ = some (.bool t) ∧ w'.cell? ⟨w.heap.size + 1, 1, none⟩ = some (.slice po l cl) ∧ w'.cell? ⟨w.heap.size + 1, 2, none⟩ = some (.slice qo j cj) ∧ Box3 w' (w.heap.size + 1 + 1) ∧ Below (w.heap.size + 1 + 1) W1 w')
      (first | exact K.out _ BC.drew XC.drew | exact K.out _ (keepB b8 (by assumption) HSZ.out) (Box3.below (by assumption) b8) | exact K.out _ BW XW | exact K.out _ (below3 BW (Nat.le_refl _) _ _ _) (XW.set3 _ _ _))
      (first
        | (go_at_call 33; go_split_ands; refine (rAdd_num na nb).mono ?_; rintro e Wx ⟨ps, ds, rfl, fs, b8⟩)
        | (go_at_call 32; go_split_ands; refine (made_any s ps pd _ ds _ dd' (N * dn E + M * dn D) (dn D * dn E) (k + k + 1) _ (Num.of_fr fs (sS _ (Nat.le_refl _))) (nd.below b8) (Nat.mul_pos dp ep) (sS _ (Nat.le_refl _)) (sK _ _ sdn sen)).mono ?_; rintro e W9 ⟨s9, a9, n9, c9, o9, m9, d9, rfl, hcq, b9⟩; have BW : Below (w.heap.size + 1 + 1) W1 W9 := keepB b9 (by assumption) HSZ.out; have XW : Box3 W9 (w.heap.size + 1 + 1) := Box3.below (by assumption) b9; obtain ⟨u0, u1, u2, q0, q1, q2, z0, z1, z2⟩ := XW.facts))
    go_wp2_with fail
    refine bodyPost_ret (v := .agg #[.bool s9, .slice a9 n9 c9, .slice o9 m9 d9]) (by simp [results, Tryz.results14, go_sem, q0, q1, q2]) rfl ?_
    exact MakesQ.lift hcq HQ.out (Box3.lt (by assumption)) (by omega) (B0.trans (BW.mono (by omega))) _ _ _
  · have hd : (s == t) = false := beq_eq_false_iff_ne.2 hst
    rcases Nat.lt_or_ge (N * dn E) (M * dn D) with h | h
    · have h1 := Lib.hid h
      have h2 := Lib.hid (sg_sub2 hst (Nat.le_of_lt h))
      clear h hst
      go_wp2_with fail
      refine (rSub_less_num na nb h1.out).mono ?_; rintro e Wy ⟨rfl, by0⟩
      replace na := na.below by0
      replace nb := nb.below by0
      replace nd := nd.below by0
      replace BC : Below (w.heap.size + 1 + 1) W1 Wy := keepB by0 BC HSZ.out
      replace XC : Box3 Wy (w.heap.size + 1 + 1) := XC.below by0
      clear e0 e1 e2 e3 e4 e5
      go_wp2_with fail
      refine (rSub_num nb na (Nat.le_of_lt h1.out)).mono ?_; rintro e Wx ⟨ps, ds, rfl, fs, b8⟩
      have BD : Below (w.heap.size + 1 + 1) W1 Wx := keepB b8 BC HSZ.out
      have XD : Box3 Wx (w.heap.size + 1 + 1) := XC.below b8
      obtain ⟨v0, v1, v2, v3, v4, v5, _⟩ := K.out _ BD XD
      go_wp2_with fail
      refine (made_any t ps pd _ ds _ dd' (M * dn D - N * dn E) (dn D * dn E) (k + k + 1) _ (Num.of_fr fs (sS _ (Nat.le_trans (Nat.sub_le _ _) (Nat.le_add_left _ _)))) (nd.below b8) (Nat.mul_pos dp ep) (sS _ (Nat.le_trans (Nat.sub_le _ _) (Nat.le_add_left _ _))) (sK _ _ sdn sen)).mono ?_
      rintro e W9 ⟨s9, a9, n9, c9, o9, m9, d9, rfl, hcq, b9⟩
      have BW : Below (w.heap.size + 1 + 1) W1 W9 := keepB b9 BD HSZ.out
      have XW : Box3 W9 (w.heap.size + 1 + 1) := XD.below b9
      clear v0 v1 v2 v3 v4 v5
      obtain ⟨u0, u1, u2, q0, q1, q2, z0, z1, z2⟩ := XW.facts
      have HQ := Lib.hid (HQS.out t (M * dn D - N * dn E) h2.out)
      go_wp2_with fail
      refine bodyPost_ret (v := .agg #[.bool s9, .slice a9 n9 c9, .slice o9 m9 d9]) (by simp [results, Tryz.results14, go_sem, q0, q1, q2]) rfl ?_
      exact MakesQ.lift hcq HQ.out XD.lt (by omega) (B0.trans (BW.mono (by omega))) _ _ _
    · have h1 := Lib.hid h
      have h2 := Lib.hid (sg_sub hst h)
      clear h hst
      go_wp2_with fail
      refine (rSub_num na nb h1.out).mono ?_; rintro e Wx ⟨ps, ds, rfl, fs, b8⟩
      clear e0 e1 e2 e3 e4 e5
      have BD : Below (w.heap.size + 1 + 1) W1 Wx := keepB b8 BC HSZ.out
      have XD : Box3 Wx (w.heap.size + 1 + 1) := XC.below b8
      obtain ⟨v0, v1, v2, v3, v4, v5, _⟩ := K.out _ BD XD
      go_wp2_with fail
      refine (made_any s ps pd _ ds _ dd' (N * dn E - M * dn D) (dn D * dn E) (k + k + 1) _ (Num.of_fr fs (sS _ (Nat.le_trans (Nat.sub_le _ _) (Nat.le_add_right _ _)))) (nd.below b8) (Nat.mul_pos dp ep) (sS _ (Nat.le_trans (Nat.sub_le _ _) (Nat.le_add_right _ _))) (sK _ _ sdn sen)).mono ?_
      rintro e W9 ⟨s9, a9, n9, c9, o9, m9, d9, rfl, hcq, b9⟩
      have BW : Below (w.heap.size + 1 + 1) W1 W9 := keepB b9 BD HSZ.out
      have XW : Box3 W9 (w.heap.size + 1 + 1) := XD.below b9
      clear v0 v1 v2 v3 v4 v5
      obtain ⟨u0, u1, u2, q0, q1, q2, z0, z1, z2⟩ := XW.facts
      have HQ := Lib.hid (HQS.out s (N * dn E - M * dn D) h2.out)
      go_wp2_with fail
      refine bodyPost_ret (v := .agg #[.bool s9, .slice a9 n9 c9, .slice o9 m9 d9]) (by simp [results, Tryz.results14, go_sem, q0, q1, q2]) rfl ?_
      exact MakesQ.lift hcq HQ.out XD.lt (by omega) (B0.trans (BW.mono (by omega))) _ _ _
end Go.Proofs.YtdcnkebcpaelpaaGreatDoor
