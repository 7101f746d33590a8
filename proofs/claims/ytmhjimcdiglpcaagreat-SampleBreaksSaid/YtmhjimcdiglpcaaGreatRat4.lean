import Derived.Test.YtmhjimcdiglpcaaGreatRats
import Derived.Test.YtmhjimcdiglpcaaGreatNums
/- Contracts of package rational and of its reference: products and sums. -/
namespace Go.Proofs.YtmhjimcdiglpcaaGreat
open Go.RowKit

/-- the boxes of two structs that came in, and that of the result -/
theorem boxes2 (w : World) (s t : Bool) (ao bo po qo : Option Addr) (n ca m cb l cl j cj : Nat) : ∃ W1, W1 = ((w.alloc (.cells #[.bool s, .slice ao n ca, .slice bo m cb] 35)).alloc (.cells #[.bool t, .slice po l cl, .slice qo j cj] 35)).alloc (.cells #[.bool false, .slice none 0 0, .slice none 0 0] 35) ∧ w.heap.size + 1 + 1 ≤ W1.heap.size ∧ Below w.heap.size w W1 ∧ Box3 W1 (w.heap.size + 1 + 1) ∧
    Hid (∀ w', Below (w.heap.size + 1 + 1) W1 w' → Box3 w' (w.heap.size + 1 + 1) → w'.cell? ⟨w.heap.size, 0, none⟩ = some (.bool s) ∧ w'.cell? ⟨w.heap.size, 1, none⟩ = some (.slice ao n ca) ∧ w'.cell? ⟨w.heap.size, 2, none⟩ = some (.slice bo m cb) ∧ w'.cell? ⟨w.heap.size + 1, 0, none⟩ = some (.bool t) ∧ w'.cell? ⟨w.heap.size + 1, 1, none⟩ = some (.slice po l cl) ∧ w'.cell? ⟨w.heap.size + 1, 2, none⟩ = some (.slice qo j cj) ∧ Box3 w' (w.heap.size + 1 + 1) ∧ Below (w.heap.size + 1 + 1) W1 w') := by
  refine ⟨_, rfl, ?_⟩
  obtain ⟨U1, hU1⟩ : ∃ U1, U1 = w.alloc (.cells #[.bool s, .slice ao n ca, .slice bo m cb] 35) := ⟨_, rfl⟩
  obtain ⟨U2, hU2⟩ : ∃ U2, U2 = U1.alloc (.cells #[.bool t, .slice po l cl, .slice qo j cj] 35) := ⟨_, rfl⟩
  obtain ⟨W1, hW1⟩ : ∃ W1, W1 = U2.alloc (.cells #[.bool false, .slice none 0 0, .slice none 0 0] 35) := ⟨_, rfl⟩
  rw [← hU1, ← hU2, ← hW1]
  have s1 : U1.heap.size = w.heap.size + 1 := by rw [hU1]; simp
  have s2 : U2.heap.size = w.heap.size + 1 + 1 := by rw [hU2]; simp [s1]
  have s3 : W1.heap.size = w.heap.size + 1 + 1 + 1 := by rw [hW1]; simp [s2]
  have x0 : W1.heap[w.heap.size]? = some (.cells #[.bool s, .slice ao n ca, .slice bo m cb] 35 (0, 0)) := by
    rw [hW1, Below.heap_alloc _ _ _ (by omega), hU2, Below.heap_alloc _ _ _ (by omega), hU1]; exact heap_alloc_new w _
  have y0 : W1.heap[w.heap.size + 1]? = some (.cells #[.bool t, .slice po l cl, .slice qo j cj] 35 (0, 0)) := by
    rw [hW1, Below.heap_alloc _ _ _ (by omega), hU2, ← s1]; exact heap_alloc_new U1 _
  have r0 : W1.heap[w.heap.size + 1 + 1]? = some (.cells #[.bool false, .slice none 0 0, .slice none 0 0] 35 (0, 0)) := by
    rw [hW1, ← s2]; exact heap_alloc_new U2 _
  refine ⟨by omega, ?_, ⟨_, _, _, r0⟩, ?_⟩
  · rw [hW1, hU2, hU1]; exact ((below_new w _).alloc (by simp) _).alloc (by simp; omega) _
  · intro w' hb hx
    obtain ⟨a1, a2, a3, _⟩ := at_block ((hb.block w.heap.size (by omega)).trans x0)
    obtain ⟨b1, b2, b3, _⟩ := at_block ((hb.block (w.heap.size + 1) (by omega)).trans y0)
    exact ⟨a1, a2, a3, b1, b2, b3, hx, hb⟩
theorem bool_neq (s t : Bool) : (s != t) = !(s == t) := by cases s <;> cases t <;> rfl

/-- what signedSum gives -/
def GivesSum (s t : Bool) (A B : Nat) (w : World) (e : Ending) (w' : World) : Prop := ∃ u P ao ca, e = .returned (.tuple #[.bool u, .slice ao (dig P).length ca]) ∧ sg u P = sg s A + sg t B ∧ P ≤ A + B ∧ Fr w.heap.size w' ao ca (dig P) ∧ Below w.heap.size w w'
set_option maxHeartbeats 8000000 in
set_option maxRecDepth 100000 in
theorem Mul_q (s t : Bool) (ao bo po qo : Option Addr) (n ca m cb l cl j cj k : Nat) (p q : Rat) (w : World) (h1 : RQ w s ao n ca bo m cb p k) (h2 : RQ w t po l cl qo j cj q k) (hk : k + k + 1 ≤ 549755813888) :
    Calls Tryz.prog 96 #[.agg #[.bool s, .slice ao n ca, .slice bo m cb], .agg #[.bool t, .slice po l cl, .slice qo j cj]] w (MakesQ (p * q) (k + k + 1) w) := by
  obtain ⟨N, D, hn, hd, sn, sd, hqx, sdn⟩ := h1
  obtain ⟨M, E, hm, he, sm, se, hqy, sen⟩ := h2
  obtain ⟨W1, hW1, hsz, B0, X0, K⟩ := boxes2 w s t ao bo po qo n ca m cb l cl j cj
  have HX : Hid (∀ w', Below (w.heap.size + 1 + 1) W1 w' → Num w' ao n ca N ∧ Num w' bo m cb D) := fun w' hb => ⟨hn.below (B0.trans (hb.mono (by omega))), hd.below (B0.trans (hb.mono (by omega)))⟩
  have HY : Hid (∀ w', Below (w.heap.size + 1 + 1) W1 w' → Num w' po l cl M ∧ Num w' qo j cj E) := fun w' hb => ⟨hm.below (B0.trans (hb.mono (by omega))), he.below (B0.trans (hb.mono (by omega)))⟩
  have sK : ∀ a b : Nat, Sm a k → Sm b k → Sm (a * b) (k + k + 1) := fun a b x y => (x.mul y (by omega)).up (by omega) hk
  have HQ : Hid (rq (s != t) (N * M) (dn D * dn E) = p * q) := by show _ = _; rw [rq_mul, hqx, hqy]
  have HSZ := Lib.hid hsz
  have dp := dn_pos D
  have ep := dn_pos E
  clear hn hd sd hm he se hqx hqy hsz
  go_enter Tryz.func96, Tryz.ntmps96
  go_wp2_with fail
  rw [← hW1]
  clear hW1
  go_region_held3 (fun w' => w'.cell? ⟨w.heap.size, 0, none⟩ = some (.bool s) ∧ w'.cell? ⟨w.heap.size, 1, none⟩ = some (.slice ao n ca) ∧ w'.cell? ⟨w.heap.size, 2, none⟩ = some (.slice bo m cb) ∧ w'.cell? ⟨w.heap.size + 1, 0, none⟩ = some (.bool t) ∧ w'.cell? ⟨w.heap.size + 1, 1, none⟩ = some (.slice po l cl) ∧ w'.cell? ⟨w.heap.size + 1, 2, none⟩ = some (.slice qo j cj) ∧ Box3 w' (w.heap.size + 1 + 1) ∧ Below (w.heap.size + 1 + 1) W1 w')
    (first | exact K.out _ (Below.refl _ _).drew X0.drew | exact K.out _ (keepB b1 (by assumption) HSZ.out) (Box3.below (by assumption) b1) | exact K.out _ (keepB b2 (by assumption) HSZ.out) (Box3.below (by assumption) b2) | exact K.out _ (keepB b3 (by assumption) HSZ.out) (Box3.below (by assumption) b3) | exact K.out _ (keepB b4 (by assumption) HSZ.out) (Box3.below (by assumption) b4) | exact K.out _ BW XW | exact K.out _ (below3 BW (Nat.le_refl _) _ _ _) (XW.set3 _ _ _))
    (first
      | (go_at_call_of 54 (Value.slice ao n ca); go_split_ands; refine (Mul_num (HX.out _ (by assumption)).1 (HY.out _ (by assumption)).1).mono ?_; rintro e W2 ⟨a1, c1, rfl, f1, b1⟩)
      | (go_at_call_of 55 (Value.agg #[.bool s, .slice ao n ca, .slice bo m cb]); go_split_ands; refine (denominator_num s ao bo n ca m cb D _ (HX.out _ (by assumption)).2).mono ?_; rintro e W3 ⟨a2, n2, c2, rfl, num2, b2⟩)
      | (go_at_call_of 55 (Value.agg #[.bool t, .slice po l cl, .slice qo j cj]); go_split_ands; refine (denominator_num t po qo l cl j cj E _ (HY.out _ (by assumption)).2).mono ?_; rintro e W4 ⟨a3, n3, c3, rfl, num3, b3⟩)
      | (go_at_call_of 54 (Value.slice a2 n2 c2); go_split_ands; refine (Mul_num (num2.below b3) num3).mono ?_; rintro e W5 ⟨a4, c4, rfl, f4, b4⟩)
      | (go_at_call 111; go_split_ands; refine (reduced_any (s != t) a1 a4 _ c1 _ c4 (N * M) (dn D * dn E) (k + k + 1) _ (Num.of_fr (((f1.below b2).below b3).below b4) (sK N M sn sm)) (Num.of_fr f4 (sK _ _ sdn sen)) (Nat.mul_pos dp ep) (sK N M sn sm) (sK _ _ sdn sen)).mono ?_; rintro e W9 ⟨s9, a9, n9, c9, o9, m9, d9, rfl, hcq, b9⟩; have BW : Below (w.heap.size + 1 + 1) W1 W9 := keepB b9 (by assumption) HSZ.out; have XW : Box3 W9 (w.heap.size + 1 + 1) := Box3.below (by assumption) b9; obtain ⟨u0, u1, u2, q0, q1, q2, z0, z1, z2⟩ := XW.facts))
  go_wp2_with fail
  refine bodyPost_ret (v := .agg #[.bool s9, .slice a9 n9 c9, .slice o9 m9 d9]) (by simp [results, Tryz.results96, go_sem, q0, q1, q2]) rfl ?_
  exact MakesQ.lift hcq HQ.out (Box3.lt (by assumption)) (by omega) (B0.trans (BW.mono (by omega))) _ _ _

set_option maxHeartbeats 8000000 in
set_option maxRecDepth 100000 in
theorem rMul_q (s t : Bool) (ao bo po qo : Option Addr) (n ca m cb l cl j cj k : Nat) (p q : Rat) (w : World) (h1 : RQ w s ao n ca bo m cb p k) (h2 : RQ w t po l cl qo j cj q k) (hk : k + k + 1 ≤ 549755813888) :
    Calls Tryz.prog 21 #[.agg #[.bool s, .slice ao n ca, .slice bo m cb], .agg #[.bool t, .slice po l cl, .slice qo j cj]] w (MakesQ (p * q) (k + k + 1) w) := by
  obtain ⟨N, D, hn, hd, sn, sd, hqx, sdn⟩ := h1
  obtain ⟨M, E, hm, he, sm, se, hqy, sen⟩ := h2
  obtain ⟨W1, hW1, hsz, B0, X0, K⟩ := boxes2 w s t ao bo po qo n ca m cb l cl j cj
  have HX : Hid (∀ w', Below (w.heap.size + 1 + 1) W1 w' → Num w' ao n ca N ∧ Num w' bo m cb D) := fun w' hb => ⟨hn.below (B0.trans (hb.mono (by omega))), hd.below (B0.trans (hb.mono (by omega)))⟩
  have HY : Hid (∀ w', Below (w.heap.size + 1 + 1) W1 w' → Num w' po l cl M ∧ Num w' qo j cj E) := fun w' hb => ⟨hm.below (B0.trans (hb.mono (by omega))), he.below (B0.trans (hb.mono (by omega)))⟩
  have sK : ∀ a b : Nat, Sm a k → Sm b k → Sm (a * b) (k + k + 1) := fun a b x y => (x.mul y (by omega)).up (by omega) hk
  have HQ : Hid (rq (s != t) (N * M) (dn D * dn E) = p * q) := by show _ = _; rw [rq_mul, hqx, hqy]
  have HSZ := Lib.hid hsz
  have dp := dn_pos D
  have ep := dn_pos E
  clear hn hd sd hm he se hqx hqy hsz
  go_enter Tryz.func21, Tryz.ntmps21
  go_wp2_with fail
  rw [← hW1]
  clear hW1
  go_region_held3 (fun w' => w'.cell? ⟨w.heap.size, 0, none⟩ = some (.bool s) ∧ w'.cell? ⟨w.heap.size, 1, none⟩ = some (.slice ao n ca) ∧ w'.cell? ⟨w.heap.size, 2, none⟩ = some (.slice bo m cb) ∧ w'.cell? ⟨w.heap.size + 1, 0, none⟩ = some (.bool t) ∧ w'.cell? ⟨w.heap.size + 1, 1, none⟩ = some (.slice po l cl) ∧ w'.cell? ⟨w.heap.size + 1, 2, none⟩ = some (.slice qo j cj) ∧ Box3 w' (w.heap.size + 1 + 1) ∧ Below (w.heap.size + 1 + 1) W1 w')
    (first | exact K.out _ (Below.refl _ _).drew X0.drew | exact K.out _ (keepB b1 (by assumption) HSZ.out) (Box3.below (by assumption) b1) | exact K.out _ (keepB b2 (by assumption) HSZ.out) (Box3.below (by assumption) b2) | exact K.out _ (keepB b3 (by assumption) HSZ.out) (Box3.below (by assumption) b3) | exact K.out _ (keepB b4 (by assumption) HSZ.out) (Box3.below (by assumption) b4) | exact K.out _ BW XW | exact K.out _ (below3 BW (Nat.le_refl _) _ _ _) (XW.set3 _ _ _))
    (first
      | (go_at_call_of 43 (Value.slice ao n ca); go_split_ands; refine (rMul_num (HX.out _ (by assumption)).1 (HY.out _ (by assumption)).1).mono ?_; rintro e W2 ⟨a1, c1, rfl, f1, b1⟩)
      | (go_at_call_of 44 (Value.agg #[.bool s, .slice ao n ca, .slice bo m cb]); go_split_ands; refine (rden_num s ao bo n ca m cb D _ (HX.out _ (by assumption)).2).mono ?_; rintro e W3 ⟨a2, c2, rfl, f2, b2⟩)
      | (go_at_call_of 44 (Value.agg #[.bool t, .slice po l cl, .slice qo j cj]); go_split_ands; refine (rden_num t po qo l cl j cj E _ (HY.out _ (by assumption)).2).mono ?_; rintro e W4 ⟨a3, c3, rfl, f3, b3⟩)
      | (go_at_call_of 43 (Value.slice a2 (dig (dn D)).length c2); go_split_ands; refine (rMul_num (Num.of_fr (f2.below b3) sdn) (Num.of_fr f3 sen)).mono ?_; rintro e W5 ⟨a4, c4, rfl, f4, b4⟩)
      | (go_at_call 45; go_split_ands; refine (made_any (s != t) a1 a4 _ c1 _ c4 (N * M) (dn D * dn E) (k + k + 1) _ (Num.of_fr (((f1.below b2).below b3).below b4) (sK N M sn sm)) (Num.of_fr f4 (sK _ _ sdn sen)) (Nat.mul_pos dp ep) (sK N M sn sm) (sK _ _ sdn sen)).mono ?_; rintro e W9 ⟨s9, a9, n9, c9, o9, m9, d9, rfl, hcq, b9⟩; have BW : Below (w.heap.size + 1 + 1) W1 W9 := keepB b9 (by assumption) HSZ.out; have XW : Box3 W9 (w.heap.size + 1 + 1) := Box3.below (by assumption) b9; obtain ⟨u0, u1, u2, q0, q1, q2, z0, z1, z2⟩ := XW.facts))
  go_wp2_with fail
  refine bodyPost_ret (v := .agg #[.bool s9, .slice a9 n9 c9, .slice o9 m9 d9]) (by simp [results, Tryz.results21, go_sem, q0, q1, q2]) rfl ?_
  exact MakesQ.lift hcq HQ.out (Box3.lt (by assumption)) (by omega) (B0.trans (BW.mono (by omega))) _ _ _

end Go.Proofs.YtmhjimcdiglpcaaGreat
