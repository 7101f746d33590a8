import Derived.Test.YtdcnkebcpaelpaaGreatDoorAwake2
import Derived.Deep.RegionWith
/- Contracts: numbers cut; quotients and differences of rational numbers. -/
namespace Go.Proofs.YtdcnkebcpaelpaaGreatDoor
open Go.RowKit

set_option maxHeartbeats 4000000 in
set_option maxRecDepth 100000 in
theorem CutRatio_any (s : Bool) (ao bo : Option Addr) (ca cb : Nat) (xs ys us vs : List Nat) (w : World) (ha : Rd w ao ca xs) (hb : Rd w bo cb ys) (hu : us = xs.take 12) (hv : vs = ys.take 12) :
    Calls Tryz.prog 4 #[.agg #[.bool s, .slice ao xs.length ca, .slice bo ys.length cb]] w fun e w' => e = .returned (.agg #[.bool s, .slice ao us.length ca, .slice bo vs.length cb]) ∧ Below w.heap.size w w' := by
  obtain ⟨W1, hW1, hsz, B0, X0, K⟩ := boxes1 w s ao xs.length ca bo ys.length cb
  have HN : Hid (∀ w', Below (w.heap.size + 1) W1 w' → Rd w' ao ca xs ∧ Rd w' bo cb ys) := fun w' hb' => ⟨ha.below (B0.trans (hb'.mono (by omega))), hb.below (B0.trans (hb'.mono (by omega)))⟩
  have HSZ := Lib.hid hsz
  have HU := Lib.hid hu
  have HV := Lib.hid hv
  clear ha hb hsz hu hv
  obtain ⟨n, hn⟩ : ∃ n, n = xs.length := ⟨_, rfl⟩
  obtain ⟨m, hm⟩ : ∃ m, m = ys.length := ⟨_, rfl⟩
  have C1 : Hid (∀ w', Rd w' ao ca xs → Calls Tryz.prog 16 #[.slice ao n ca] w' fun e w'' => e = .returned (.slice ao us.length ca) ∧ w' = w'') := fun w' h => by rw [hn]; exact Cut_any ao ca xs us w' h HU.out
  have C2 : Hid (∀ w', Rd w' bo cb ys → Calls Tryz.prog 16 #[.slice bo m cb] w' fun e w'' => e = .returned (.slice bo vs.length cb) ∧ w' = w'') := fun w' h => by rw [hm]; exact Cut_any bo cb ys vs w' h HV.out
  rw [← hn, ← hm] at hW1 K ⊢
  clear hn hm
  go_enter Tryz.func4, Tryz.ntmps4
  go_wp2_with fail
  rw [← hW1]
  clear hW1
  obtain ⟨u0, u1, u2, q0, q1, q2, z0, z1, z2⟩ := X0.facts
  go_region_held3 (fun w' => w'.cell? ⟨w.heap.size, 0, none⟩ = some (.bool s) ∧ w'.cell? ⟨w.heap.size, 1, none⟩ = some (.slice ao n ca) ∧ w'.cell? ⟨w.heap.size, 2, none⟩ = some (.slice bo m cb) ∧ Box3 w' (w.heap.size + 1) ∧ Below (w.heap.size + 1) W1 w')
    (first | exact K.out _ (Below.refl _ _).drew X0.drew | exact K.out _ (by assumption) (by assumption) | exact K.out _ (below3 (by assumption) (Nat.le_refl _) _ _ _) (Box3.set3 (by assumption) _ _ _))
    (first
      | (go_at_call_of 16 (Value.slice ao n ca); go_split_ands; refine (C1.out _ (HN.out _ (by assumption)).1).mono ?_; rintro e w' ⟨rfl, rfl⟩)
      | (go_at_call_of 16 (Value.slice bo m cb); go_split_ands; refine (C2.out _ (HN.out _ (by assumption)).2).mono ?_; rintro e w' ⟨rfl, rfl⟩))
  all_goals
    go_wp2_with fail
    refine bodyPost_ret (v := .agg #[.bool s, .slice ao us.length ca, .slice bo vs.length cb]) (by simp [results, Tryz.results4, go_sem, q0, q1, q2]) rfl ?_
    exact ⟨rfl, below3 (B0.trans ((Below.refl _ _).drew.mono B0.size)) (by omega) _ _ _⟩
theorem cq_zero (B : Nat) (w : World) (k : Nat) (hk : 1 ≤ k) (hk2 : k ≤ 549755813888) : CQ B w false none 0 0 none 0 0 (0 : Rat) k := by
  have h1 : rn (0 : Rat) = 0 := rfl
  have h2 : (0 : Rat).den = 1 := rfl
  refine ⟨rfl, by rw [h1]; rfl, by rw [h2]; rfl, by rw [h1]; exact Fr.nil _ _, by rw [h2]; exact Fr.nil _ _, ?_, ?_⟩
  · rw [h1]; exact ⟨pw_pos _, hk2⟩
  · rw [h2]; refine ⟨?_, hk2⟩; have := pw_mono hk; simp [pw] at this ⊢; omega
theorem sgn_zero_iff {q : Rat} : sgn q = 0 ↔ q = 0 := by
  unfold sgn
  constructor
  · intro h
    by_cases h1 : q.num < 0
    · rw [if_pos h1] at h; omega
    · rw [if_neg h1] at h
      by_cases h2 : q.num = 0
      · exact Rat.num_eq_zero.1 h2
      · rw [if_neg h2] at h; omega
  · intro h; subst h; rfl
theorem sgn_mag (q : Rat) : -1 ≤ sgn q ∧ sgn q ≤ 1 := by
  unfold sgn; split
  · omega
  · split <;> omega
set_option maxHeartbeats 8000000 in
set_option maxRecDepth 100000 in
theorem Quo_zero (s t : Bool) (ao bo po qo : Option Addr) (n ca m cb l cl j cj k : Nat) (p q : Rat) (w : World) (h1 : RQ w s ao n ca bo m cb p k) (h2 : RQ w t po l cl qo j cj q k) (hk : k + k + 1 ≤ 549755813888) (hq0 : q = 0) :
    Calls Tryz.prog 5 #[.agg #[.bool s, .slice ao n ca, .slice bo m cb], .agg #[.bool t, .slice po l cl, .slice qo j cj]] w (fun e w' => e = .returned (.tuple #[.agg #[.bool false, .slice none 0 0, .slice none 0 0], .int .i64 20]) ∧ Below w.heap.size w w') := by
  obtain ⟨N, D, hn, hd, sn, sd, hqx, sdn⟩ := h1
  obtain ⟨M, E, hm, he, sm, se, hqy, sen⟩ := h2
  obtain ⟨W1, hW1, hsz, B0, X0, K⟩ := boxes2 w s t ao bo po qo n ca m cb l cl j cj
  have HX : Hid (∀ w', Below (w.heap.size + 1 + 1) W1 w' → Num w' ao n ca N ∧ Num w' bo m cb D) := fun w' hb => ⟨hn.below (B0.trans (hb.mono (by omega))), hd.below (B0.trans (hb.mono (by omega)))⟩
  have HY : Hid (∀ w', Below (w.heap.size + 1 + 1) W1 w' → Num w' po l cl M ∧ Num w' qo j cj E) := fun w' hb => ⟨hm.below (B0.trans (hb.mono (by omega))), he.below (B0.trans (hb.mono (by omega)))⟩
  have sK : ∀ a b : Nat, Sm a k → Sm b k → Sm (a * b) (k + k + 1) := fun a b x y => (x.mul y (by omega)).up (by omega) hk
  have hmq : M = 0 ↔ q = 0 := by rw [← hqy]; exact (rq_zero_iff (dn_pos E)).symm
  have HQ : Hid (rq (s != t) (N * dn E) (dn D * M) = p / q) := by show _ = _; rw [rq_div, hqx, hqy]
  have RY : Hid (∀ w', Below (w.heap.size + 1 + 1) W1 w' → RQ w' t po l cl qo j cj q k) := fun w' hb => ⟨M, E, (HY.out w' hb).1, (HY.out w' hb).2, sm, se, hqy, sen⟩
  obtain ⟨z, hz⟩ : ∃ z, z = sgn q := ⟨_, rfl⟩
  have hzm := sgn_mag q
  rw [← hz] at hzm
  have ZQ := Lib.hid hz.symm
  have DQ := Lib.hid (show z = 0 ↔ q = 0 by rw [hz]; exact sgn_zero_iff)
  clear hz
  have HSZ := Lib.hid hsz
  have hdz : (z == 0) = true := beq_iff_eq.2 (DQ.out.2 hq0)
  have dp := dn_pos D
  have ep := dn_pos E
  clear hn hd sd hm he se hqx hqy hsz hmq hq0
  go_enter Tryz.func5, Tryz.ntmps5
  have RY1 := RY.out W1 (Below.refl _ _)
  go_wp2_with fail
  rw [← hW1]
  clear hW1
  refine (Sign_q t po qo l cl j cj k q _ RY1).mono ?_; rintro e W2 ⟨rfl, b0⟩
  rw [ZQ.out]
  have BA : Below (w.heap.size + 1 + 1) W1 W2 := keepB b0 (Below.refl _ _) HSZ.out
  have XA : Box3 W2 (w.heap.size + 1 + 1) := X0.below b0
  obtain ⟨u0, u1, u2, q0, q1, q2, z0, z1, z2⟩ := XA.facts
  go_wp2_with fail
  refine bodyPost_ret (v := .tuple #[.agg #[.bool false, .slice none 0 0, .slice none 0 0], .int .i64 20]) (by simp [results, Tryz.results5, go_sem, q0, q1, q2]) rfl ?_
  exact ⟨rfl, below3 (B0.trans (BA.mono (by omega))) (by omega) _ _ _⟩
set_option maxHeartbeats 8000000 in
set_option maxRecDepth 100000 in
theorem Quo_q (s t : Bool) (ao bo po qo : Option Addr) (n ca m cb l cl j cj k : Nat) (p q : Rat) (w : World) (h1 : RQ w s ao n ca bo m cb p k) (h2 : RQ w t po l cl qo j cj q k) (hk : k + k + 1 ≤ 549755813888) (hq0 : q ≠ 0) :
    Calls Tryz.prog 5 #[.agg #[.bool s, .slice ao n ca, .slice bo m cb], .agg #[.bool t, .slice po l cl, .slice qo j cj]] w (MakesE (p / q) (k + k + 1) w) := by
  obtain ⟨N, D, hn, hd, sn, sd, hqx, sdn⟩ := h1
  obtain ⟨M, E, hm, he, sm, se, hqy, sen⟩ := h2
  obtain ⟨W1, hW1, hsz, B0, X0, K⟩ := boxes2 w s t ao bo po qo n ca m cb l cl j cj
  have HX : Hid (∀ w', Below (w.heap.size + 1 + 1) W1 w' → Num w' ao n ca N ∧ Num w' bo m cb D) := fun w' hb => ⟨hn.below (B0.trans (hb.mono (by omega))), hd.below (B0.trans (hb.mono (by omega)))⟩
  have HY : Hid (∀ w', Below (w.heap.size + 1 + 1) W1 w' → Num w' po l cl M ∧ Num w' qo j cj E) := fun w' hb => ⟨hm.below (B0.trans (hb.mono (by omega))), he.below (B0.trans (hb.mono (by omega)))⟩
  have sK : ∀ a b : Nat, Sm a k → Sm b k → Sm (a * b) (k + k + 1) := fun a b x y => (x.mul y (by omega)).up (by omega) hk
  have hmq : M = 0 ↔ q = 0 := by rw [← hqy]; exact (rq_zero_iff (dn_pos E)).symm
  have HQ : Hid (rq (s != t) (N * dn E) (dn D * M) = p / q) := by show _ = _; rw [rq_div, hqx, hqy]
  have RY : Hid (∀ w', Below (w.heap.size + 1 + 1) W1 w' → RQ w' t po l cl qo j cj q k) := fun w' hb => ⟨M, E, (HY.out w' hb).1, (HY.out w' hb).2, sm, se, hqy, sen⟩
  obtain ⟨z, hz⟩ : ∃ z, z = sgn q := ⟨_, rfl⟩
  have hzm := sgn_mag q
  rw [← hz] at hzm
  have ZQ := Lib.hid hz.symm
  have DQ := Lib.hid (show z = 0 ↔ q = 0 by rw [hz]; exact sgn_zero_iff)
  clear hz
  have HSZ := Lib.hid hsz
  have hdz : (z == 0) = false := beq_eq_false_iff_ne.2 (fun e => hq0 (DQ.out.1 e))
  have mp : 0 < M := Nat.pos_of_ne_zero (fun e => hq0 (hmq.1 e))
  have dp := dn_pos D
  have ep := dn_pos E
  clear hn hd sd hm he se hqx hqy hsz hmq hq0
  go_enter Tryz.func5, Tryz.ntmps5
  have RY1 := RY.out W1 (Below.refl _ _)
  go_wp2_with fail
  rw [← hW1]
  clear hW1
  refine (Sign_q t po qo l cl j cj k q _ RY1).mono ?_; rintro e W2 ⟨rfl, b0⟩
  rw [ZQ.out]
  have BA : Below (w.heap.size + 1 + 1) W1 W2 := keepB b0 (Below.refl _ _) HSZ.out
  have XA : Box3 W2 (w.heap.size + 1 + 1) := X0.below b0
  go_wp2_with fail
  go_region_held3 (fun w' => w'.cell? ⟨w.heap.size, 0, none⟩ = some (.bool s) ∧ w'.cell? ⟨w.heap.size, 1, none⟩ = some (.slice ao n ca) ∧ w'.cell? ⟨w.heap.size, 2, none⟩ = some (.slice bo m cb) ∧ w'.cell? ⟨w.heap.size + 1, 0, none⟩ = some (.bool t) ∧ w'.cell? ⟨w.heap.size + 1, 1, none⟩ = some (.slice po l cl) ∧ w'.cell? ⟨w.heap.size + 1, 2, none⟩ = some (.slice qo j cj) ∧ Box3 w' (w.heap.size + 1 + 1) ∧ Below (w.heap.size + 1 + 1) W1 w')
    (first | exact K.out _ BA.drew XA.drew | exact K.out _ (keepB b1 (by assumption) HSZ.out) (Box3.below (by assumption) b1) | exact K.out _ (keepB b2 (by assumption) HSZ.out) (Box3.below (by assumption) b2) | exact K.out _ (keepB b3 (by assumption) HSZ.out) (Box3.below (by assumption) b3) | exact K.out _ (keepB b4 (by assumption) HSZ.out) (Box3.below (by assumption) b4) | exact K.out _ BW XW | exact K.out _ (below3 BW (Nat.le_refl _) _ _ _) (XW.set3 _ _ _))
    (first
      | (go_at_call_of 20 (Value.agg #[.bool t, .slice po l cl, .slice qo j cj]); go_split_ands; refine (denominator_num t po qo l cl j cj E _ (HY.out _ (by assumption)).2).mono ?_; rintro e W3 ⟨a1, n1, c1, rfl, num1, b1⟩)
      | (go_at_call_of 19 (Value.slice ao n ca); go_split_ands; refine (Mul_num (HX.out _ (by assumption)).1 num1).mono ?_; rintro e W4 ⟨a2, c2, rfl, f2, b2⟩)
      | (go_at_call_of 20 (Value.agg #[.bool s, .slice ao n ca, .slice bo m cb]); go_split_ands; refine (denominator_num s ao bo n ca m cb D _ (HX.out _ (by assumption)).2).mono ?_; rintro e W5 ⟨a3, n3, c3, rfl, num3, b3⟩)
      | (go_at_call_of 19 (Value.slice a3 n3 c3); go_split_ands; refine (Mul_num num3 (HY.out _ (by assumption)).1).mono ?_; rintro e W6 ⟨a4, c4, rfl, f4, b4⟩)
      | (go_at_call 18; go_split_ands; refine (reduced_any (s != t) a2 a4 _ c2 _ c4 (N * dn E) (dn D * M) (k + k + 1) _ (Num.of_fr ((f2.below b3).below b4) (sK N _ sn sen)) (Num.of_fr f4 (sK _ _ sdn sm)) (Nat.mul_pos dp mp) (sK N _ sn sen) (sK _ _ sdn sm)).mono ?_; rintro e W9 ⟨s9, a9, n9, c9, o9, m9, d9, rfl, hcq, b9⟩; have BW : Below (w.heap.size + 1 + 1) W1 W9 := keepB b9 (by assumption) HSZ.out; have XW : Box3 W9 (w.heap.size + 1 + 1) := Box3.below (by assumption) b9; obtain ⟨u0, u1, u2, q0, q1, q2, z0, z1, z2⟩ := XW.facts))
  go_wp2_with fail
  refine bodyPost_ret (v := .tuple #[.agg #[.bool s9, .slice a9 n9 c9, .slice o9 m9 d9], .int .i64 0]) (by simp [results, Tryz.results5, go_sem, q0, q1, q2]) rfl ?_
  exact MakesE.of (MakesQ.lift hcq HQ.out (Box3.lt (by assumption)) (by omega) (B0.trans (BW.mono (by omega))) _ _ _)
/-- what a quotient with its error gives (by 0: 0, and the error) -/
def QuoRes (p q : Rat) (k : Nat) (w : World) (e : Ending) (w' : World) : Prop := ∃ s ao n ca bo m cb er, e = .returned (.tuple #[.agg #[.bool s, .slice ao n ca, .slice bo m cb], .int .i64 er]) ∧ CQ w.heap.size w' s ao n ca bo m cb (p / q) k ∧ (q = 0 ∧ er = 20 ∨ q ≠ 0 ∧ er = 0) ∧ Below w.heap.size w w'
theorem div_zero_rat (p : Rat) : p / 0 = 0 := by rw [Rat.div_def, Rat.inv_zero, Rat.mul_zero]
theorem Quo_any (s t : Bool) (ao bo po qo : Option Addr) (n ca m cb l cl j cj k : Nat) (p q : Rat) (w : World) (h1 : RQ w s ao n ca bo m cb p k) (h2 : RQ w t po l cl qo j cj q k) (hk : k + k + 1 ≤ 549755813888) :
    Calls Tryz.prog 5 #[.agg #[.bool s, .slice ao n ca, .slice bo m cb], .agg #[.bool t, .slice po l cl, .slice qo j cj]] w (QuoRes p q (k + k + 1) w) := by
  by_cases hq0 : q = 0
  · refine (Quo_zero s t ao bo po qo n ca m cb l cl j cj k p q w h1 h2 hk hq0).mono ?_
    rintro e w' ⟨rfl, hb⟩
    refine ⟨_, _, _, _, _, _, _, _, rfl, ?_, .inl ⟨hq0, rfl⟩, hb⟩
    rw [hq0, div_zero_rat]; exact cq_zero _ _ _ (by omega) hk
  · refine (Quo_q s t ao bo po qo n ca m cb l cl j cj k p q w h1 h2 hk hq0).mono ?_
    rintro e w' ⟨s', ao', n', ca', bo', m', cb', rfl, h, hb⟩
    exact ⟨_, _, _, _, _, _, _, _, rfl, h, .inr ⟨hq0, rfl⟩, hb⟩
end Go.Proofs.YtdcnkebcpaelpaaGreatDoor
