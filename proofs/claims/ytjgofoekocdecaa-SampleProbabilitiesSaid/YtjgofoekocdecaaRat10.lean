import Derived.Test.YtjgofoekocdecaaRat9
/- What the laws of two numbers share; differences and comparisons of both packages. -/
namespace Go.Proofs.Ytjgofoekocdecaa
open Go.RowKit
-- COMMON
/-- two structs that the law holds, cut -/
theorem cells6 {w : World} {g : Nat} {u v x u' v' x' : Value} (h1 : w.heap[g]? = some (.cells #[u, v, x] 37 (0, 0))) (h2 : w.heap[g + 1]? = some (.cells #[u', v', x'] 37 (0, 0))) :
    (w.cell? ⟨g, 0, none⟩ = some u ∧ w.cell? ⟨g, 1, none⟩ = some v ∧ w.cell? ⟨g, 2, none⟩ = some x ∧ w.frozen? ⟨g, 0, none⟩ = false ∧ w.frozen? ⟨g, 1, none⟩ = false ∧ w.frozen? ⟨g, 2, none⟩ = false) ∧
    (w.cell? ⟨g + 1, 0, none⟩ = some u' ∧ w.cell? ⟨g + 1, 1, none⟩ = some v' ∧ w.cell? ⟨g + 1, 2, none⟩ = some x' ∧ w.frozen? ⟨g + 1, 0, none⟩ = false ∧ w.frozen? ⟨g + 1, 1, none⟩ = false ∧ w.frozen? ⟨g + 1, 2, none⟩ = false) :=
  ⟨at_block h1, at_block h2⟩
theorem set3_at {w : World} {g : Nat} {u v x : Value} (h : w.heap[g]? = some (.cells #[u, v, x] 37 (0, 0))) (a b c : Value) : (((w.setCell ⟨g, 0, none⟩ a).setCell ⟨g, 1, none⟩ b).setCell ⟨g, 2, none⟩ c).heap[g]? = some (.cells #[a, b, c] 37 (0, 0)) := by
  simp [World.setCell, Array.getElem?_modify, h]
theorem set3_off {w : World} {g k : Nat} (hk : k ≠ g) (a b c : Value) : (((w.setCell ⟨g, 0, none⟩ a).setCell ⟨g, 1, none⟩ b).setCell ⟨g, 2, none⟩ c).heap[k]? = w.heap[k]? := by
  simp [World.setCell, Array.getElem?_modify, Ne.symm hk]
theorem carry {w w' : World} {g : Nat} {o : Obj} (h : w.heap[g]? = some o) (hb : Below w.heap.size w w') : w'.heap[g]? = some o := (hb.block g (Array.getElem?_eq_some_iff.1 h).1).trans h
/-- what the cut structs are worth -/
theorem cut_rq {s : Bool} {ao bo : Option Addr} {ca cb : Nat} {xs ys us vs : List Nat} {w : World} (ha : Rd w ao ca xs) (hb : Rd w bo cb ys) (hu : us = xs.take 12) (hv : vs = ys.take 12) : RQ w s ao us.length ca bo vs.length cb (rq s (val us) (dn (val vs))) 12 := by
  obtain ⟨n1, s1⟩ := Cut_num ha hu
  obtain ⟨n2, s2⟩ := Cut_num hb hv
  refine ⟨val us, val vs, n1, n2, s1, s2, rfl, ?_⟩
  unfold dn; split
  · exact ⟨by simp [pw], by omega⟩
  · exact s2
-- COMMON

set_option maxHeartbeats 8000000 in
set_option maxRecDepth 100000 in
theorem rSub_q (s t : Bool) (ao bo po qo : Option Addr) (n ca m cb l cl j cj k : Nat) (p q : Rat) (w : World) (h1 : RQ w s ao n ca bo m cb p k) (h2 : RQ w t po l cl qo j cj q k) (hk : k + k + 1 ≤ 549755813888) :
    Calls Try.prog 21 #[.agg #[.bool s, .slice ao n ca, .slice bo m cb], .agg #[.bool t, .slice po l cl, .slice qo j cj]] w (MakesQ (p - q) (k + k + 1) w) := by
  obtain ⟨W1, hW1, hsz, B0, X0, K⟩ := boxes2 w s t ao bo po qo n ca m cb l cl j cj
  have HX : Hid (∀ w', Below (w.heap.size + 1 + 1) W1 w' → RQ w' s ao n ca bo m cb p k) := fun w' hb => h1.below (B0.trans (hb.mono (by omega)))
  have HY : Hid (∀ w', Below (w.heap.size + 1 + 1) W1 w' → RQ w' t po l cl qo j cj q k) := fun w' hb => h2.below (B0.trans (hb.mono (by omega)))
  have HQ : Hid (p + -q = p - q) := (Rat.sub_eq_add_neg p q).symm
  have HSZ := Lib.hid hsz
  clear h1 h2 hsz
  go_enter Try.func21, Try.ntmps21
  go_wp2_with fail
  rw [← hW1]
  clear hW1
  go_region_held3 (fun w' => w'.cell? ⟨w.heap.size, 0, none⟩ = some (.bool s) ∧ w'.cell? ⟨w.heap.size, 1, none⟩ = some (.slice ao n ca) ∧ w'.cell? ⟨w.heap.size, 2, none⟩ = some (.slice bo m cb) ∧ w'.cell? ⟨w.heap.size + 1, 0, none⟩ = some (.bool t) ∧ w'.cell? ⟨w.heap.size + 1, 1, none⟩ = some (.slice po l cl) ∧ w'.cell? ⟨w.heap.size + 1, 2, none⟩ = some (.slice qo j cj) ∧ Box3 w' (w.heap.size + 1 + 1) ∧ Below (w.heap.size + 1 + 1) W1 w')
    (first | exact K.out _ (Below.refl _ _).drew X0.drew | exact K.out _ (keepB b1 (by assumption) HSZ.out) (Box3.below (by assumption) b1) | exact K.out _ BW XW | exact K.out _ (below3 BW (Nat.le_refl _) _ _ _) (XW.set3 _ _ _))
    (first
      | (go_at_call 36; go_split_ands; refine (rNegate_q t po qo l cl j cj k q _ (HY.out _ (by assumption))).mono ?_; rintro e W2 ⟨s1, a1, n1, c1, o1, m1, d1, rfl, cq1, b1⟩)
      | (go_at_call 18; go_split_ands; refine (rAdd_q s s1 ao bo a1 o1 n ca m cb n1 c1 m1 d1 k p (-q) _ (HX.out _ (by assumption)) cq1.rq hk).mono ?_; rintro e W9 ⟨s9, a9, n9, c9, o9, m9, d9, rfl, hcq, b9⟩; have BW : Below (w.heap.size + 1 + 1) W1 W9 := keepB b9 (by assumption) HSZ.out; have XW : Box3 W9 (w.heap.size + 1 + 1) := Box3.below (by assumption) b9; obtain ⟨u0, u1, u2, q0, q1, q2, z0, z1, z2⟩ := XW.facts))
  go_wp2_with fail
  refine bodyPost_ret (v := .agg #[.bool s9, .slice a9 n9 c9, .slice o9 m9 d9]) (by simp [results, Try.results21, go_sem, q0, q1, q2]) rfl ?_
  exact MakesQ.lift hcq HQ.out (Box3.lt (by assumption)) (by omega) (B0.trans (BW.mono (by omega))) _ _ _

theorem set0_at {w : World} {g : Nat} {u v x : Value} {t : TypeId} (h : w.heap[g]? = some (.cells #[u, v, x] t (0, 0))) (a : Value) : (w.setCell ⟨g, 0, none⟩ a).heap[g]? = some (.cells #[a, v, x] t (0, 0)) := by
  simp [World.setCell, Array.getElem?_modify, h]
theorem set0_off {w : World} {g k : Nat} (hk : k ≠ g) (a : Value) : (w.setCell ⟨g, 0, none⟩ a).heap[k]? = w.heap[k]? := by
  simp [World.setCell, Array.getElem?_modify, Ne.symm hk]
/-- a struct that came in with its sign turned -/
theorem RQ.turn {w : World} {t : Bool} {po qo : Option Addr} {l cl j cj k : Nat} {q : Rat} (h : RQ w t po l cl qo j cj q k) : RQ w (!t) po l cl qo j cj (-q) k := by
  obtain ⟨N, D, h1, h2, h3, h4, h5, h6⟩ := h
  exact ⟨N, D, h1, h2, h3, h4, by rw [rq_neg, h5], h6⟩
theorem cmpn_mag (a b : Nat) : -1 ≤ cmpn a b ∧ cmpn a b ≤ 1 := by unfold cmpn; split <;> (try split) <;> omega
theorem cq_mag (p q : Rat) : -1 ≤ cq p q ∧ cq p q ≤ 1 := sgn_mag _
theorem wrap_sign {a b : Int} (ha : -1 ≤ a ∧ a ≤ 1) (hb : -1 ≤ b ∧ b ≤ 1) : IntKind.i64.wrap (a * b) = a * b := by
  have : a = -1 ∨ a = 0 ∨ a = 1 := by omega
  have : b = -1 ∨ b = 0 ∨ b = 1 := by omega
  rcases ‹a = -1 ∨ a = 0 ∨ a = 1› with rfl | rfl | rfl <;> rcases ‹b = -1 ∨ b = 0 ∨ b = 1› with rfl | rfl | rfl <;> rfl

set_option maxHeartbeats 8000000 in
set_option maxRecDepth 100000 in
theorem rCompare_q (s t : Bool) (ao bo po qo : Option Addr) (n ca m cb l cl j cj k : Nat) (p q : Rat) (w : World) (h1 : RQ w s ao n ca bo m cb p k) (h2 : RQ w t po l cl qo j cj q k) (hk : k + k + 1 ≤ 549755813888) :
    Calls Try.prog 10 #[.agg #[.bool s, .slice ao n ca, .slice bo m cb], .agg #[.bool t, .slice po l cl, .slice qo j cj]] w fun e w' => e = .returned (.int .i64 (cq p q)) ∧ Below w.heap.size w w' := by
  obtain ⟨W1, hW1, B0, K⟩ := boxesS w s t ao bo po qo n ca m cb l cl j cj
  have HX := h1.below B0
  have HY := h2.below B0
  obtain ⟨e0, e1, e2, e3, e4, e5⟩ := K.out W1 (Below.refl _ _)
  clear h1 h2
  go_enter Try.func10, Try.ntmps10
  go_wp2_with fail
  rw [← hW1]
  clear hW1
  go_wp2_with fail
  refine (rSub_q s t ao bo po qo n ca m cb l cl j cj k p q _ HX HY hk).mono ?_; rintro e W2 ⟨s9, a9, n9, c9, o9, m9, d9, rfl, hcq, b9⟩
  go_wp2_with fail
  refine (rSign_q s9 a9 o9 n9 c9 m9 d9 (k + k + 1) (p - q) _ hcq.rq).mono ?_; rintro e W3 ⟨rfl, b3⟩
  go_wp2_with fail
  go_ret
  exact ⟨rfl, (B0.trans (b9.mono B0.size)).trans (b3.mono (B0.trans (b9.mono B0.size)).size)⟩

end Go.Proofs.Ytjgofoekocdecaa
