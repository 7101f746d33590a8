import Derived.Test.YtdcnkebcpaelpaaGreatDoorRats
import Derived.Test.YtdcnkebcpaelpaaGreatDoorNums
/- Contracts of package rational and of its reference: products and sums. -/
namespace Go.Proofs.YtdcnkebcpaelpaaGreatDoor
open Go.RowKit

/-- the boxes of two structs that came in, and that of the result -/
theorem boxes2 (w : World) (s t : Bool) (ao bo po qo : Option Addr) (n ca m cb l cl j cj : Nat) : ∃ W1, W1 = ((w.alloc (.cells #[.bool s, .slice ao n ca, .slice bo m cb] 25)).alloc (.cells #[.bool t, .slice po l cl, .slice qo j cj] 25)).alloc (.cells #[.bool false, .slice none 0 0, .slice none 0 0] 25) ∧ w.heap.size + 1 + 1 ≤ W1.heap.size ∧ Below w.heap.size w W1 ∧ Box3 W1 (w.heap.size + 1 + 1) ∧
    Hid (∀ w', Below (w.heap.size + 1 + 1) W1 w' → Box3 w' (w.heap.size + 1 + 1) → w'.cell? ⟨w.heap.size, 0, none⟩ = some (.bool s) ∧ w'.cell? ⟨w.heap.size, 1, none⟩ = some (.slice ao n ca) ∧ w'.cell? ⟨w.heap.size, 2, none⟩ = some (.slice bo m cb) ∧ w'.cell? ⟨w.heap.size + 1, 0, none⟩ = some (.bool t) ∧ w'.cell? ⟨w.heap.size + 1, 1, none⟩ = some (.slice po l cl) ∧ w'.cell? ⟨w.heap.size + 1, 2, none⟩ = some (.slice qo j cj) ∧ Box3 w' (w.heap.size + 1 + 1) ∧ Below (w.heap.size + 1 + 1) W1 w') := by
  refine ⟨_, rfl, ?_⟩
  obtain ⟨U1, hU1⟩ : ∃ U1, U1 = w.alloc (.cells #[.bool s, .slice ao n ca, .slice bo m cb] 25) := ⟨_, rfl⟩
  obtain ⟨U2, hU2⟩ : ∃ U2, U2 = U1.alloc (.cells #[.bool t, .slice po l cl, .slice qo j cj] 25) := ⟨_, rfl⟩
  obtain ⟨W1, hW1⟩ : ∃ W1, W1 = U2.alloc (.cells #[.bool false, .slice none 0 0, .slice none 0 0] 25) := ⟨_, rfl⟩
  rw [← hU1, ← hU2, ← hW1]
  have s1 : U1.heap.size = w.heap.size + 1 := by rw [hU1]; simp
  have s2 : U2.heap.size = w.heap.size + 1 + 1 := by rw [hU2]; simp [s1]
  have s3 : W1.heap.size = w.heap.size + 1 + 1 + 1 := by rw [hW1]; simp [s2]
  have x0 : W1.heap[w.heap.size]? = some (.cells #[.bool s, .slice ao n ca, .slice bo m cb] 25 (0, 0)) := by
    rw [hW1, Below.heap_alloc _ _ _ (by omega), hU2, Below.heap_alloc _ _ _ (by omega), hU1]; exact heap_alloc_new w _
  have y0 : W1.heap[w.heap.size + 1]? = some (.cells #[.bool t, .slice po l cl, .slice qo j cj] 25 (0, 0)) := by
    rw [hW1, Below.heap_alloc _ _ _ (by omega), hU2, ← s1]; exact heap_alloc_new U1 _
  have r0 : W1.heap[w.heap.size + 1 + 1]? = some (.cells #[.bool false, .slice none 0 0, .slice none 0 0] 25 (0, 0)) := by
    rw [hW1, ← s2]; exact heap_alloc_new U2 _
  refine ⟨by omega, ?_, ⟨_, _, _, r0⟩, ?_⟩
  · rw [hW1, hU2, hU1]; exact ((below_new w _).alloc (by simp) _).alloc (by simp; omega) _
  · intro w' hb hx
    obtain ⟨a1, a2, a3, _⟩ := at_block ((hb.block w.heap.size (by omega)).trans x0)
    obtain ⟨b1, b2, b3, _⟩ := at_block ((hb.block (w.heap.size + 1) (by omega)).trans y0)
    exact ⟨a1, a2, a3, b1, b2, b3, hx, hb⟩
theorem bool_neq (s t : Bool) : (s != t) = !(s == t) := by cases s <;> cases t <;> rfl

/-- what signedSum gives -/
def GivesSum (s t : Bool) (A B : Nat) (w : World) (e : Ending) (w' : World) : Prop := ∃ u P ao ca, e = .returned (.tuple #[.bool u, .slice ao (dig P).length ca]) ∧ sg u P = sg s A + sg t B ∧ P ≤ A + B ∧ Fr w.heap.size w' ao ca (dig P) ∧ Below w.heap.size w w'
set_option maxHeartbeats 4000000 in
set_option maxRecDepth 100000 in
theorem signedSum_num (s t : Bool) (ao bo : Option Addr) (n ca m cb A B : Nat) (w : World) (ha : Num w ao n ca A) (hb : Num w bo m cb B) :
    Calls Tryz.prog 26 #[.bool s, .slice ao n ca, .bool t, .slice bo m cb] w (GivesSum s t A B w) := by
  by_cases hst : s = t
  · subst hst
    have hd : (s == s) = true := beq_self_eq_true s
    go_enter Tryz.func26, Tryz.ntmps26
    go_wp2_with fail
    refine (Add_num ha hb).mono ?_; rintro e w1 ⟨a1, c1, rfl, f1, b1⟩
    go_wp2_with fail
    go_ret2
    exact ⟨s, A + B, a1, c1, rfl, sg_add s A B, Nat.le_refl _, f1, b1⟩
  · have hd : (s == t) = false := beq_eq_false_iff_ne.2 hst
    rcases Nat.lt_or_ge A B with h | h
    · have h1 := Lib.hid h
      have h2 := Lib.hid (sg_sub2 hst (Nat.le_of_lt h))
      clear h hst
      go_enter Tryz.func26, Tryz.ntmps26
      go_wp2_with fail
      refine (Sub_less_num ha hb h1.out).mono ?_; rintro e w' ⟨rfl, rfl⟩
      go_wp2_with fail
      refine (Sub_num hb ha (Nat.le_of_lt h1.out)).mono ?_; rintro e w1 ⟨a1, c1, rfl, f1, b1⟩
      go_wp2_with fail
      go_ret2
      exact ⟨t, B - A, a1, c1, rfl, h2.out, Nat.le_trans (Nat.sub_le _ _) (Nat.le_add_left _ _), f1, b1⟩
    · have h1 := Lib.hid h
      have h2 := Lib.hid (sg_sub hst h)
      clear h hst
      go_enter Tryz.func26, Tryz.ntmps26
      go_wp2_with fail
      refine (Sub_num ha hb h1.out).mono ?_; rintro e w1 ⟨a1, c1, rfl, f1, b1⟩
      go_wp2_with fail
      go_ret2
      exact ⟨s, A - B, a1, c1, rfl, h2.out, Nat.le_trans (Nat.sub_le _ _) (Nat.le_add_right _ _), f1, b1⟩

set_option maxHeartbeats 8000000 in
set_option maxRecDepth 100000 in
theorem Mul_q (s t : Bool) (ao bo po qo : Option Addr) (n ca m cb l cl j cj k : Nat) (p q : Rat) (w : World) (h1 : RQ w s ao n ca bo m cb p k) (h2 : RQ w t po l cl qo j cj q k) (hk : k + k + 1 ≤ 549755813888) :
    Calls Tryz.prog 10 #[.agg #[.bool s, .slice ao n ca, .slice bo m cb], .agg #[.bool t, .slice po l cl, .slice qo j cj]] w (MakesQ (p * q) (k + k + 1) w) := by
  obtain ⟨N, D, hn, hd, sn, sd, hqx, sdn⟩ := h1
  obtain ⟨M, E, hm, he, sm, se, hqy, sen⟩ := h2
  obtain ⟨W1, hW1, hsz, B0, X0, K⟩ := boxes2 w s t ao bo po qo n ca m cb l cl j cj
  have HX : Hid (∀ w', Below (w.heap.size + 1 + 1) W1 w' → Num w' ao n ca N ∧ Num w' bo m cb D) := fun w' hb => ⟨hn.below (B0.trans (hb.mono (by omega))), hd.below (B0.trans (hb.mono (by omega)))⟩
  have HY : Hid (∀ w', Below (w.heap.size + 1 + 1) W1 w' → Num w' po l cl M ∧ Num w' qo j cj E) := fun w' hb => ⟨hm.below (B0.trans (hb.mono (by omega))), he.below (B0.trans (hb.mono (by omega)))⟩
  have sK : ∀ a b : Nat, Sm a k → Sm b k → Sm (a * b) (k + k + 1) := fun a b x y => (x.mul y (by omega)).up (by omega) hk
  have HQ : Hid (rq (s != t) (N * M) (dn D * dn E) = p * q) := by show _ = _; rw [rq_mul, hqx, hqy]
  have HSZ := Lib.hid hsz
  have dp := dn_pos D
  have ep := dn_pos E
  clear hn hd sd hm he se hqx hqy hsz
  go_enter Tryz.func10, Tryz.ntmps10
  go_wp2_with fail
  rw [← hW1]
  clear hW1
  go_region_held3 (fun w' => w'.cell? ⟨w.heap.size, 0, none⟩ = some (.bool s) ∧ w'.cell? ⟨w.heap.size, 1, none⟩ = some (.slice ao n ca) ∧ w'.cell? ⟨w.heap.size, 2, none⟩ = some (.slice bo m cb) ∧ w'.cell? ⟨w.heap.size + 1, 0, none⟩ = some (.bool t) ∧ w'.cell? ⟨w.heap.size + 1, 1, none⟩ = some (.slice po l cl) ∧ w'.cell? ⟨w.heap.size + 1, 2, none⟩ = some (.slice qo j cj) ∧ Box3 w' (w.heap.size + 1 + 1) ∧ Below (w.heap.size + 1 + 1) W1 w')
    (first | exact K.out _ (Below.refl _ _).drew X0.drew | exact K.out _ (keepB b1 (by assumption) HSZ.out) (Box3.below (by assumption) b1) | exact K.out _ (keepB b2 (by assumption) HSZ.out) (Box3.below (by assumption) b2) | exact K.out _ (keepB b3 (by assumption) HSZ.out) (Box3.below (by assumption) b3) | exact K.out _ (keepB b4 (by assumption) HSZ.out) (Box3.below (by assumption) b4) | exact K.out _ BW XW | exact K.out _ (below3 BW (Nat.le_refl _) _ _ _) (XW.set3 _ _ _))
    (first
      | (go_at_call_of 19 (Value.slice ao n ca); go_split_ands; refine (Mul_num (HX.out _ (by assumption)).1 (HY.out _ (by assumption)).1).mono ?_; rintro e W2 ⟨a1, c1, rfl, f1, b1⟩)
      | (go_at_call_of 20 (Value.agg #[.bool s, .slice ao n ca, .slice bo m cb]); go_split_ands; refine (denominator_num s ao bo n ca m cb D _ (HX.out _ (by assumption)).2).mono ?_; rintro e W3 ⟨a2, n2, c2, rfl, num2, b2⟩)
      | (go_at_call_of 20 (Value.agg #[.bool t, .slice po l cl, .slice qo j cj]); go_split_ands; refine (denominator_num t po qo l cl j cj E _ (HY.out _ (by assumption)).2).mono ?_; rintro e W4 ⟨a3, n3, c3, rfl, num3, b3⟩)
      | (go_at_call_of 19 (Value.slice a2 n2 c2); go_split_ands; refine (Mul_num (num2.below b3) num3).mono ?_; rintro e W5 ⟨a4, c4, rfl, f4, b4⟩)
      | (go_at_call 18; go_split_ands; refine (reduced_any (s != t) a1 a4 _ c1 _ c4 (N * M) (dn D * dn E) (k + k + 1) _ (Num.of_fr (((f1.below b2).below b3).below b4) (sK N M sn sm)) (Num.of_fr f4 (sK _ _ sdn sen)) (Nat.mul_pos dp ep) (sK N M sn sm) (sK _ _ sdn sen)).mono ?_; rintro e W9 ⟨s9, a9, n9, c9, o9, m9, d9, rfl, hcq, b9⟩; have BW : Below (w.heap.size + 1 + 1) W1 W9 := keepB b9 (by assumption) HSZ.out; have XW : Box3 W9 (w.heap.size + 1 + 1) := Box3.below (by assumption) b9; obtain ⟨u0, u1, u2, q0, q1, q2, z0, z1, z2⟩ := XW.facts))
  go_wp2_with fail
  refine bodyPost_ret (v := .agg #[.bool s9, .slice a9 n9 c9, .slice o9 m9 d9]) (by simp [results, Tryz.results10, go_sem, q0, q1, q2]) rfl ?_
  exact MakesQ.lift hcq HQ.out (Box3.lt (by assumption)) (by omega) (B0.trans (BW.mono (by omega))) _ _ _

set_option maxHeartbeats 8000000 in
set_option maxRecDepth 100000 in
theorem Add_q (s t : Bool) (ao bo po qo : Option Addr) (n ca m cb l cl j cj k : Nat) (p q : Rat) (w : World) (h1 : RQ w s ao n ca bo m cb p k) (h2 : RQ w t po l cl qo j cj q k) (hk : k + k + 1 ≤ 549755813888) :
    Calls Tryz.prog 9 #[.agg #[.bool s, .slice ao n ca, .slice bo m cb], .agg #[.bool t, .slice po l cl, .slice qo j cj]] w (MakesQ (p + q) (k + k + 1) w) := by
  obtain ⟨N, D, hn, hd, sn, sd, hqx, sdn⟩ := h1
  obtain ⟨M, E, hm, he, sm, se, hqy, sen⟩ := h2
  obtain ⟨W1, hW1, hsz, B0, X0, K⟩ := boxes2 w s t ao bo po qo n ca m cb l cl j cj
  have HX : Hid (∀ w', Below (w.heap.size + 1 + 1) W1 w' → Num w' ao n ca N ∧ Num w' bo m cb D) := fun w' hb => ⟨hn.below (B0.trans (hb.mono (by omega))), hd.below (B0.trans (hb.mono (by omega)))⟩
  have HY : Hid (∀ w', Below (w.heap.size + 1 + 1) W1 w' → Num w' po l cl M ∧ Num w' qo j cj E) := fun w' hb => ⟨hm.below (B0.trans (hb.mono (by omega))), he.below (B0.trans (hb.mono (by omega)))⟩
  have sK : ∀ a b : Nat, Sm a k → Sm b k → Sm (a * b) (k + k + 1) := fun a b x y => (x.mul y (by omega)).up (by omega) hk
  have HQS : Hid (∀ u P, sg u P = sg s (N * dn E) + sg t (M * dn D) → rq u P (dn D * dn E) = p + q) := fun u P hu => by rw [rq_add (dn_pos D) (dn_pos E) hu, hqx, hqy]
  have sS : ∀ P, P ≤ N * dn E + M * dn D → Sm P (k + k + 1) := fun P hP => by
    have h1 := (sn.mul sen (by omega)).1
    have h2 := (sm.mul sdn (by omega)).1
    refine ⟨?_, hk⟩
    rw [pw_succ]; have := pw_pos (k + k); omega
  have HSZ := Lib.hid hsz
  have dp := dn_pos D
  have ep := dn_pos E
  clear hn hd sd hm he se hqx hqy hsz
  go_enter Tryz.func9, Tryz.ntmps9
  go_wp2_with fail
  rw [← hW1]
  clear hW1
  go_region_held3 (fun w' => w'.cell? ⟨w.heap.size, 0, none⟩ = some (.bool s) ∧ w'.cell? ⟨w.heap.size, 1, none⟩ = some (.slice ao n ca) ∧ w'.cell? ⟨w.heap.size, 2, none⟩ = some (.slice bo m cb) ∧ w'.cell? ⟨w.heap.size + 1, 0, none⟩ = some (.bool t) ∧ w'.cell? ⟨w.heap.size + 1, 1, none⟩ = some (.slice po l cl) ∧ w'.cell? ⟨w.heap.size + 1, 2, none⟩ = some (.slice qo j cj) ∧ Box3 w' (w.heap.size + 1 + 1) ∧ Below (w.heap.size + 1 + 1) W1 w')
    (first | exact K.out _ (Below.refl _ _).drew X0.drew | exact K.out _ (keepB b1 (by assumption) HSZ.out) (Box3.below (by assumption) b1) | exact K.out _ (keepB b2 (by assumption) HSZ.out) (Box3.below (by assumption) b2))
    (first
      | (go_at_call_of 20 (Value.agg #[.bool s, .slice ao n ca, .slice bo m cb]); go_split_ands; refine (denominator_num s ao bo n ca m cb D _ (HX.out _ (by assumption)).2).mono ?_; rintro e W2 ⟨a1, n1, c1, rfl, num1, b1⟩)
      | (go_at_call_of 20 (Value.agg #[.bool t, .slice po l cl, .slice qo j cj]); go_split_ands; refine (denominator_num t po qo l cl j cj E _ (HY.out _ (by assumption)).2).mono ?_; rintro e W3 ⟨a2, n2, c2, rfl, num2, b2⟩; have BA : Below (w.heap.size + 1 + 1) W1 W3 := keepB b2 (by assumption) HSZ.out; have XA : Box3 W3 (w.heap.size + 1 + 1) := Box3.below (by assumption) b2; replace num1 := num1.below b2))
  replace num1 := num1.below (w' := W3.drew) (Below.refl _ _).drew
  replace num2 := num2.below (w' := W3.drew) (Below.refl _ _).drew
  go_wp2_with fail
  go_region_held3 (fun w' => w'.cell? ⟨w.heap.size, 0, none⟩ = some (.bool s) ∧ w'.cell? ⟨w.heap.size, 1, none⟩ = some (.slice ao n ca) ∧ w'.cell? ⟨w.heap.size, 2, none⟩ = some (.slice bo m cb) ∧ w'.cell? ⟨w.heap.size + 1, 0, none⟩ = some (.bool t) ∧ w'.cell? ⟨w.heap.size + 1, 1, none⟩ = some (.slice po l cl) ∧ w'.cell? ⟨w.heap.size + 1, 2, none⟩ = some (.slice qo j cj) ∧ Box3 w' (w.heap.size + 1 + 1) ∧ Below (w.heap.size + 1 + 1) W1 w')
    (first | exact K.out _ BA.drew XA.drew | exact K.out _ (keepB b3 (by assumption) HSZ.out) (Box3.below (by assumption) b3) | exact K.out _ (keepB b4 (by assumption) HSZ.out) (Box3.below (by assumption) b4) | exact K.out _ (keepB b6 (by assumption) HSZ.out) (Box3.below (by assumption) b6))
    (first
      | (go_at_call_of 19 (Value.slice ao n ca); go_split_ands; refine (Mul_num (HX.out _ (by assumption)).1 num2).mono ?_; rintro e W4 ⟨a3, c3, rfl, f3, b3⟩; have num1' := num1.below b3; have num2' := num2.below b3)
      | (go_at_call_of 19 (Value.slice po l cl); go_split_ands; refine (Mul_num (HY.out _ (by assumption)).1 num1').mono ?_; rintro e W5 ⟨a4, c4, rfl, f4, b4⟩; have num1'' := num1'.below b4; have num2'' := num2'.below b4)
      | (go_at_call 26; go_split_ands; refine (signedSum_num s t a3 a4 _ c3 _ c4 (N * dn E) (M * dn D) _ (Num.of_fr (f3.below b4) (sK _ _ sn sen)) (Num.of_fr f4 (sK _ _ sm sdn))).mono ?_; rintro e W6 ⟨u6, P6, a6, c6, rfl, hu6, hP6, f6, b6⟩; have BC : Below (w.heap.size + 1 + 1) W1 W6 := keepB b6 (by assumption) HSZ.out; have XC : Box3 W6 (w.heap.size + 1 + 1) := Box3.below (by assumption) b6; have num1c := num1''.below b6; have num2c := num2''.below b6))
  have HQ6 := Lib.hid (HQS.out u6 P6 hu6)
  have s6 := sS P6 hP6
  clear hu6 hP6
  go_wp2_with fail
  refine (Mul_num num1c num2c).mono ?_; rintro e W7 ⟨a7, c7, rfl, f7, b7⟩
  have BD : Below (w.heap.size + 1 + 1) W1 W7 := keepB b7 BC HSZ.out
  have XD : Box3 W7 (w.heap.size + 1 + 1) := XC.below b7
  go_wp2_with fail
  refine (reduced_any u6 a6 a7 _ c6 _ c7 P6 (dn D * dn E) (k + k + 1) _ (Num.of_fr (f6.below b7) s6) (Num.of_fr f7 (sK _ _ sdn sen)) (Nat.mul_pos dp ep) s6 (sK _ _ sdn sen)).mono ?_
  rintro e W9 ⟨s9, a9, n9, c9, o9, m9, d9, rfl, hcq, b9⟩
  have BW : Below (w.heap.size + 1 + 1) W1 W9 := keepB b9 BD HSZ.out
  have XW : Box3 W9 (w.heap.size + 1 + 1) := XD.below b9
  obtain ⟨u0, u1, u2, q0, q1, q2, z0, z1, z2⟩ := XW.facts
  go_wp2_with fail
  refine bodyPost_ret (v := .agg #[.bool s9, .slice a9 n9 c9, .slice o9 m9 d9]) (by simp [results, Tryz.results9, go_sem, q0, q1, q2]) rfl ?_
  exact MakesQ.lift hcq HQ6.out XD.lt (by omega) (B0.trans (BW.mono (by omega))) _ _ _
end Go.Proofs.YtdcnkebcpaelpaaGreatDoor
