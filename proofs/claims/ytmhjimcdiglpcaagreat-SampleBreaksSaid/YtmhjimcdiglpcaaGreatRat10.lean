import Derived.Test.YtmhjimcdiglpcaaGreatRat9
/- What the laws of two numbers share; differences and comparisons of both packages. -/
namespace Go.Proofs.YtmhjimcdiglpcaaGreat
open Go.RowKit
-- COMMON
/-- two structs that the law holds, cut -/
theorem cells6 {w : World} {g : Nat} {u v x u' v' x' : Value} (h1 : w.heap[g]? = some (.cells #[u, v, x] 35 (0, 0))) (h2 : w.heap[g + 1]? = some (.cells #[u', v', x'] 35 (0, 0))) :
    (w.cell? ⟨g, 0, none⟩ = some u ∧ w.cell? ⟨g, 1, none⟩ = some v ∧ w.cell? ⟨g, 2, none⟩ = some x ∧ w.frozen? ⟨g, 0, none⟩ = false ∧ w.frozen? ⟨g, 1, none⟩ = false ∧ w.frozen? ⟨g, 2, none⟩ = false) ∧
    (w.cell? ⟨g + 1, 0, none⟩ = some u' ∧ w.cell? ⟨g + 1, 1, none⟩ = some v' ∧ w.cell? ⟨g + 1, 2, none⟩ = some x' ∧ w.frozen? ⟨g + 1, 0, none⟩ = false ∧ w.frozen? ⟨g + 1, 1, none⟩ = false ∧ w.frozen? ⟨g + 1, 2, none⟩ = false) :=
  ⟨at_block h1, at_block h2⟩
theorem set3_at {w : World} {g : Nat} {u v x : Value} (h : w.heap[g]? = some (.cells #[u, v, x] 35 (0, 0))) (a b c : Value) : (((w.setCell ⟨g, 0, none⟩ a).setCell ⟨g, 1, none⟩ b).setCell ⟨g, 2, none⟩ c).heap[g]? = some (.cells #[a, b, c] 35 (0, 0)) := by
  simp [World.setCell, Array.getElem?_modify, h]
theorem set3_off {w : World} {g k : Nat} (hk : k ≠ g) (a b c : Value) : (((w.setCell ⟨g, 0, none⟩ a).setCell ⟨g, 1, none⟩ b).setCell ⟨g, 2, none⟩ c).heap[k]? = w.heap[k]? := by
  simp [World.setCell, Array.getElem?_modify, Ne.symm hk]
theorem carry {w w' : World} {g : Nat} {o : Obj} (h : w.heap[g]? = some o) (hb : Below w.heap.size w w') : w'.heap[g]? = some o := (hb.block g (Array.getElem?_eq_some_iff.1 h).1).trans h
/-- what the cut structs are worth -/
theorem cut_rq {s : Bool} {ao bo : Option Addr} {ca cb : Nat} {xs ys us vs : List Nat} {w : World} (ha : Rd w ao ca xs) (hb : Rd w bo cb ys) (hu : us = xs.take 12) (hv : vs = ys.take 12) : RQ w s ao us.length ca bo vs.length cb (rq s (val us) (dn (val vs))) 12 := by
  obtain ⟨n1, s1⟩ := Cut_num ha hu
  obtain ⟨n2, s2⟩ := Cut_num hb hv
  refine ⟨val us, val vs, n1, n2, s1, s2, rfl, ?_⟩
  unfold dn; split
  · exact ⟨by simp [pw], by omega⟩
  · exact s2
-- COMMON

set_option maxHeartbeats 8000000 in
set_option maxRecDepth 100000 in
theorem rSub_q (s t : Bool) (ao bo po qo : Option Addr) (n ca m cb l cl j cj k : Nat) (p q : Rat) (w : World) (h1 : RQ w s ao n ca bo m cb p k) (h2 : RQ w t po l cl qo j cj q k) (hk : k + k + 1 ≤ 549755813888) :
    Calls Tryz.prog 19 #[.agg #[.bool s, .slice ao n ca, .slice bo m cb], .agg #[.bool t, .slice po l cl, .slice qo j cj]] w (MakesQ (p - q) (k + k + 1) w) := by
  obtain ⟨W1, hW1, hsz, B0, X0, K⟩ := boxes2 w s t ao bo po qo n ca m cb l cl j cj
  have HX : Hid (∀ w', Below (w.heap.size + 1 + 1) W1 w' → RQ w' s ao n ca bo m cb p k) := fun w' hb => h1.below (B0.trans (hb.mono (by omega)))
  have HY : Hid (∀ w', Below (w.heap.size + 1 + 1) W1 w' → RQ w' t po l cl qo j cj q k) := fun w' hb => h2.below (B0.trans (hb.mono (by omega)))
  have HQ : Hid (p + -q = p - q) := (Rat.sub_eq_add_neg p q).symm
  have HSZ := Lib.hid hsz
  clear h1 h2 hsz
  go_enter Tryz.func19, Tryz.ntmps19
  go_wp2_with fail
  rw [← hW1]
  clear hW1
  go_region_held3 (fun w' => w'.cell? ⟨w.heap.size, 0, none⟩ = some (.bool s) ∧ w'.cell? ⟨w.heap.size, 1, none⟩ = some (.slice ao n ca) ∧ w'.cell? ⟨w.heap.size, 2, none⟩ = some (.slice bo m cb) ∧ w'.cell? ⟨w.heap.size + 1, 0, none⟩ = some (.bool t) ∧ w'.cell? ⟨w.heap.size + 1, 1, none⟩ = some (.slice po l cl) ∧ w'.cell? ⟨w.heap.size + 1, 2, none⟩ = some (.slice qo j cj) ∧ Box3 w' (w.heap.size + 1 + 1) ∧ Below (w.heap.size + 1 + 1) W1 w')
    (first | exact K.out _ (Below.refl _ _).drew X0.drew | exact K.out _ (keepB b1 (by assumption) HSZ.out) (Box3.below (by assumption) b1) | exact K.out _ BW XW | exact K.out _ (below3 BW (Nat.le_refl _) _ _ _) (XW.set3 _ _ _))
    (first
      | (go_at_call 42; go_split_ands; refine (rNegate_q t po qo l cl j cj k q _ (HY.out _ (by assumption))).mono ?_; rintro e W2 ⟨s1, a1, n1, c1, o1, m1, d1, rfl, cq1, b1⟩)
      | (go_at_call 20; go_split_ands; refine (rAdd_q s s1 ao bo a1 o1 n ca m cb n1 c1 m1 d1 k p (-q) _ (HX.out _ (by assumption)) cq1.rq hk).mono ?_; rintro e W9 ⟨s9, a9, n9, c9, o9, m9, d9, rfl, hcq, b9⟩; have BW : Below (w.heap.size + 1 + 1) W1 W9 := keepB b9 (by assumption) HSZ.out; have XW : Box3 W9 (w.heap.size + 1 + 1) := Box3.below (by assumption) b9; obtain ⟨u0, u1, u2, q0, q1, q2, z0, z1, z2⟩ := XW.facts))
  go_wp2_with fail
  refine bodyPost_ret (v := .agg #[.bool s9, .slice a9 n9 c9, .slice o9 m9 d9]) (by simp [results, Tryz.results19, go_sem, q0, q1, q2]) rfl ?_
  exact MakesQ.lift hcq HQ.out (Box3.lt (by assumption)) (by omega) (B0.trans (BW.mono (by omega))) _ _ _

theorem set0_at {w : World} {g : Nat} {u v x : Value} {t : TypeId} (h : w.heap[g]? = some (.cells #[u, v, x] t (0, 0))) (a : Value) : (w.setCell ⟨g, 0, none⟩ a).heap[g]? = some (.cells #[a, v, x] t (0, 0)) := by
  simp [World.setCell, Array.getElem?_modify, h]
theorem set0_off {w : World} {g k : Nat} (hk : k ≠ g) (a : Value) : (w.setCell ⟨g, 0, none⟩ a).heap[k]? = w.heap[k]? := by
  simp [World.setCell, Array.getElem?_modify, Ne.symm hk]
/-- a struct that came in with its sign turned -/
theorem RQ.turn {w : World} {t : Bool} {po qo : Option Addr} {l cl j cj k : Nat} {q : Rat} (h : RQ w t po l cl qo j cj q k) : RQ w (!t) po l cl qo j cj (-q) k := by
  obtain ⟨N, D, h1, h2, h3, h4, h5, h6⟩ := h
  exact ⟨N, D, h1, h2, h3, h4, by rw [rq_neg, h5], h6⟩
theorem cmpn_mag (a b : Nat) : -1 ≤ cmpn a b ∧ cmpn a b ≤ 1 := by unfold cmpn; split <;> (try split) <;> omega
theorem cq_mag (p q : Rat) : -1 ≤ cq p q ∧ cq p q ≤ 1 := sgn_mag _
theorem wrap_sign {a b : Int} (ha : -1 ≤ a ∧ a ≤ 1) (hb : -1 ≤ b ∧ b ≤ 1) : IntKind.i64.wrap (a * b) = a * b := by
  have : a = -1 ∨ a = 0 ∨ a = 1 := by omega
  have : b = -1 ∨ b = 0 ∨ b = 1 := by omega
  rcases ‹a = -1 ∨ a = 0 ∨ a = 1› with rfl | rfl | rfl <;> rcases ‹b = -1 ∨ b = 0 ∨ b = 1› with rfl | rfl | rfl <;> rfl

set_option maxHeartbeats 8000000 in
set_option maxRecDepth 100000 in
theorem rCompare_q (s t : Bool) (ao bo po qo : Option Addr) (n ca m cb l cl j cj k : Nat) (p q : Rat) (w : World) (h1 : RQ w s ao n ca bo m cb p k) (h2 : RQ w t po l cl qo j cj q k) (hk : k + k + 1 ≤ 549755813888) :
    Calls Tryz.prog 11 #[.agg #[.bool s, .slice ao n ca, .slice bo m cb], .agg #[.bool t, .slice po l cl, .slice qo j cj]] w fun e w' => e = .returned (.int .i64 (cq p q)) ∧ Below w.heap.size w w' := by
  obtain ⟨W1, hW1, B0, K⟩ := boxesS w s t ao bo po qo n ca m cb l cl j cj
  have HX := h1.below B0
  have HY := h2.below B0
  obtain ⟨e0, e1, e2, e3, e4, e5⟩ := K.out W1 (Below.refl _ _)
  clear h1 h2
  go_enter Tryz.func11, Tryz.ntmps11
  go_wp2_with fail
  rw [← hW1]
  clear hW1
  go_wp2_with fail
  refine (rSub_q s t ao bo po qo n ca m cb l cl j cj k p q _ HX HY hk).mono ?_; rintro e W2 ⟨s9, a9, n9, c9, o9, m9, d9, rfl, hcq, b9⟩
  go_wp2_with fail
  refine (rSign_q s9 a9 o9 n9 c9 m9 d9 (k + k + 1) (p - q) _ hcq.rq).mono ?_; rintro e W3 ⟨rfl, b3⟩
  go_wp2_with fail
  go_ret
  exact ⟨rfl, (B0.trans (b9.mono B0.size)).trans (b3.mono (B0.trans (b9.mono B0.size)).size)⟩

set_option maxHeartbeats 8000000 in
set_option maxRecDepth 100000 in
theorem Compare_q (s t : Bool) (ao bo po qo : Option Addr) (n ca m cb l cl j cj k : Nat) (p q : Rat) (w : World) (h1 : RQ w s ao n ca bo m cb p k) (h2 : RQ w t po l cl qo j cj q k) (hk : k + k + 1 ≤ 549755813888) :
    Calls Tryz.prog 26 #[.agg #[.bool s, .slice ao n ca, .slice bo m cb], .agg #[.bool t, .slice po l cl, .slice qo j cj]] w fun e w' => e = .returned (.int .i64 (cq p q)) ∧ Below w.heap.size w w' := by
  obtain ⟨W1, hW1, B0, K⟩ := boxesS w s t ao bo po qo n ca m cb l cl j cj
  have KX : Hid (∀ w', Below W1.heap.size W1 w' → w'.cell? ⟨w.heap.size, 0, none⟩ = some (.bool s) ∧ w'.cell? ⟨w.heap.size, 1, none⟩ = some (.slice ao n ca) ∧ w'.cell? ⟨w.heap.size, 2, none⟩ = some (.slice bo m cb) ∧ w'.cell? ⟨w.heap.size + 1, 0, none⟩ = some (.bool t) ∧ w'.cell? ⟨w.heap.size + 1, 1, none⟩ = some (.slice po l cl) ∧ w'.cell? ⟨w.heap.size + 1, 2, none⟩ = some (.slice qo j cj) ∧ Below W1.heap.size W1 w') := by
    intro w' hb; obtain ⟨e0, e1, e2, e3, e4, e5⟩ := K.out w' hb; exact ⟨e0, e1, e2, e3, e4, e5, hb⟩
  have HX : Hid (∀ w', Below W1.heap.size W1 w' → RQ w' s ao n ca bo m cb p k) := fun w' hb => (h1.below B0).below hb
  have HY : Hid (∀ w', Below W1.heap.size W1 w' → RQ w' t po l cl qo j cj q k) := fun w' hb => (h2.below B0).below hb
  have HB : Hid (∀ w', Below W1.heap.size W1 w' → Below w.heap.size w w') := fun w' hb => B0.trans (hb.mono B0.size)
  obtain ⟨x, hx⟩ : ∃ x, x = sgn p := ⟨_, rfl⟩
  obtain ⟨y, hy⟩ : ∃ y, y = sgn q := ⟨_, rfl⟩
  obtain ⟨z, hz⟩ : ∃ z, z = cq p q := ⟨_, rfl⟩
  rw [← hz]
  have mx := sgn_mag p
  have my := sgn_mag q
  rw [← hx] at mx
  rw [← hy] at my
  have SX := Lib.hid hx.symm
  have SY := Lib.hid hy.symm
  obtain ⟨N, D, hn, hd, sn, sd, hqx, sdn⟩ := h1
  obtain ⟨M, E, hm, he, sm, se, hqy, sen⟩ := h2
  have HN : Hid (∀ w', Below W1.heap.size W1 w' → Num w' ao n ca N ∧ Num w' bo m cb D) := fun w' hb => ⟨(hn.below B0).below hb, (hd.below B0).below hb⟩
  have HM : Hid (∀ w', Below W1.heap.size W1 w' → Num w' po l cl M ∧ Num w' qo j cj E) := fun w' hb => ⟨(hm.below B0).below hb, (he.below B0).below hb⟩
  have dp := dn_pos D
  have ep := dn_pos E
  have sK : ∀ a b : Nat, Sm a k → Sm b k → Sm (a * b) (k + k + 1) := fun a b x y => (x.mul y (by omega)).up (by omega) hk
  have S1 := sK _ _ sn sen
  have S2 := sK _ _ sm sdn
  rcases Int.lt_trichotomy x y with h | h | h
  · have hv : Hid (z = -1) := by show z = -1; rw [hz, ← hqx, ← hqy]; exact cq_lt dp ep (by rw [hqx, hqy, ← hx, ← hy]; exact h)
    have hd1 : decide (x < y) = true := decide_eq_true h
    clear h hx hy hz hqx hqy hn hd sn sd sdn hm he sm se sen mx my
    go_enter Tryz.func26, Tryz.ntmps26
    go_wp2_with fail
    rw [← hW1]
    clear hW1
    go_region_held3 (fun w' => w'.cell? ⟨w.heap.size, 0, none⟩ = some (.bool s) ∧ w'.cell? ⟨w.heap.size, 1, none⟩ = some (.slice ao n ca) ∧ w'.cell? ⟨w.heap.size, 2, none⟩ = some (.slice bo m cb) ∧ w'.cell? ⟨w.heap.size + 1, 0, none⟩ = some (.bool t) ∧ w'.cell? ⟨w.heap.size + 1, 1, none⟩ = some (.slice po l cl) ∧ w'.cell? ⟨w.heap.size + 1, 2, none⟩ = some (.slice qo j cj) ∧ Below W1.heap.size W1 w')
      (first | exact KX.out _ (Below.refl _ _).drew | exact KX.out _ (keepB b1 (by assumption) (Nat.le_refl _)) | exact KX.out _ (keepB b2 (by assumption) (Nat.le_refl _)))
      (first
        | (go_at_call_of 25 (Value.agg #[.bool s, .slice ao n ca, .slice bo m cb]); go_split_ands; refine (Sign_q s ao bo n ca m cb k p _ (HX.out _ (by assumption))).mono ?_; rintro e W2 ⟨rfl, b1⟩; rw [SX.out])
        | (go_at_call_of 25 (Value.agg #[.bool t, .slice po l cl, .slice qo j cj]); go_split_ands; refine (Sign_q t po qo l cl j cj k q _ (HY.out _ (by assumption))).mono ?_; rintro e W3 ⟨rfl, b2⟩; rw [SY.out]; have BW : Below W1.heap.size W1 W3 := keepB b2 (by assumption) (Nat.le_refl _)))
    go_wp2_with fail
    go_ret
    exact ⟨ret_i64e hv.out.symm, HB.out _ BW⟩
  · have hv : Hid (z = x * cmpn (N * dn E) (M * dn D)) := by show z = _; rw [hz, hx, ← hqx, ← hqy]; exact cq_eq dp ep (by rw [hqx, hqy, ← hx, ← hy]; exact h)
    have hw : Hid (IntKind.i64.wrap (x * cmpn (N * dn E) (M * dn D)) = x * cmpn (N * dn E) (M * dn D)) := wrap_sign mx (cmpn_mag _ _)
    subst h
    have hd1 : decide (x < x) = false := decide_eq_false (Int.lt_irrefl x)
    have SDN := Lib.hid sdn
    have SEN := Lib.hid sen
    clear hx hy hz hqx hqy hn hd sn sd sdn hm he sm se sen mx my
    go_enter Tryz.func26, Tryz.ntmps26
    go_wp2_with fail
    rw [← hW1]
    clear hW1
    go_region_held3 (fun w' => w'.cell? ⟨w.heap.size, 0, none⟩ = some (.bool s) ∧ w'.cell? ⟨w.heap.size, 1, none⟩ = some (.slice ao n ca) ∧ w'.cell? ⟨w.heap.size, 2, none⟩ = some (.slice bo m cb) ∧ w'.cell? ⟨w.heap.size + 1, 0, none⟩ = some (.bool t) ∧ w'.cell? ⟨w.heap.size + 1, 1, none⟩ = some (.slice po l cl) ∧ w'.cell? ⟨w.heap.size + 1, 2, none⟩ = some (.slice qo j cj) ∧ Below W1.heap.size W1 w')
      (first | exact KX.out _ (Below.refl _ _).drew | exact KX.out _ (keepB b1 (by assumption) (Nat.le_refl _)) | exact KX.out _ (keepB b2 (by assumption) (Nat.le_refl _)))
      (first
        | (go_at_call_of 25 (Value.agg #[.bool s, .slice ao n ca, .slice bo m cb]); go_split_ands; refine (Sign_q s ao bo n ca m cb k p _ (HX.out _ (by assumption))).mono ?_; rintro e W2 ⟨rfl, b1⟩; rw [SX.out])
        | (go_at_call_of 25 (Value.agg #[.bool t, .slice po l cl, .slice qo j cj]); go_split_ands; refine (Sign_q t po qo l cl j cj k q _ (HY.out _ (by assumption))).mono ?_; rintro e W3 ⟨rfl, b2⟩; rw [SY.out]; have BW : Below W1.heap.size W1 W3 := keepB b2 (by assumption) (Nat.le_refl _)))
    go_wp2_with fail
    go_region_held3 (fun w' => w'.cell? ⟨w.heap.size, 0, none⟩ = some (.bool s) ∧ w'.cell? ⟨w.heap.size, 1, none⟩ = some (.slice ao n ca) ∧ w'.cell? ⟨w.heap.size, 2, none⟩ = some (.slice bo m cb) ∧ w'.cell? ⟨w.heap.size + 1, 0, none⟩ = some (.bool t) ∧ w'.cell? ⟨w.heap.size + 1, 1, none⟩ = some (.slice po l cl) ∧ w'.cell? ⟨w.heap.size + 1, 2, none⟩ = some (.slice qo j cj) ∧ Below W1.heap.size W1 w')
      (first | exact KX.out _ BW.drew | exact KX.out _ (keepB b3 (by assumption) (Nat.le_refl _)) | exact KX.out _ (keepB b4 (by assumption) (Nat.le_refl _)) | exact KX.out _ (keepB b5 (by assumption) (Nat.le_refl _)) | exact KX.out _ (keepB b6 (by assumption) (Nat.le_refl _)) | exact KX.out _ BX)
      (first
        | (go_at_call_of 55 (Value.agg #[.bool t, .slice po l cl, .slice qo j cj]); go_split_ands; refine (denominator_num t po qo l cl j cj E _ (HM.out _ (by assumption)).2).mono ?_; rintro e W4 ⟨a3, n3, c3, rfl, num3, b3⟩)
        | (go_at_call_of 54 (Value.slice ao n ca); go_split_ands; refine (Mul_num (HN.out _ (by assumption)).1 num3).mono ?_; rintro e W5 ⟨a4, c4, rfl, f4, b4⟩)
        | (go_at_call_of 55 (Value.agg #[.bool s, .slice ao n ca, .slice bo m cb]); go_split_ands; refine (denominator_num s ao bo n ca m cb D _ (HN.out _ (by assumption)).2).mono ?_; rintro e W6 ⟨a5, n5, c5, rfl, num5, b5⟩)
        | (go_at_call_of 54 (Value.slice po l cl); go_split_ands; refine (Mul_num (HM.out _ (by assumption)).1 num5).mono ?_; rintro e W7 ⟨a6, c6, rfl, f6, b6⟩)
        | (go_at_call 53; go_split_ands; refine (Compare_num (Num.of_fr ((f4.below b5).below b6) S1) (Num.of_fr f6 S2)).mono ?_; rintro e W8 ⟨rfl, rfl⟩; have BX : Below W1.heap.size W1 W7 := (by assumption)))
    go_wp2_with fail
    go_ret
    exact ⟨ret_i64e (by first | (rw [hv.out, hw.out]) | (rw [hw.out, hv.out]) | (rw [hv.out])), HB.out _ BX⟩
  · have hv : Hid (z = 1) := by show z = 1; rw [hz, ← hqx, ← hqy]; exact cq_gt dp ep (by rw [hqx, hqy, ← hx, ← hy]; exact h)
    have hd1 : decide (x < y) = false := decide_eq_false (by omega)
    have hd2 : decide (y < x) = true := decide_eq_true h
    clear h hx hy hz hqx hqy hn hd sn sd sdn hm he sm se sen mx my
    go_enter Tryz.func26, Tryz.ntmps26
    go_wp2_with fail
    rw [← hW1]
    clear hW1
    go_region_held3 (fun w' => w'.cell? ⟨w.heap.size, 0, none⟩ = some (.bool s) ∧ w'.cell? ⟨w.heap.size, 1, none⟩ = some (.slice ao n ca) ∧ w'.cell? ⟨w.heap.size, 2, none⟩ = some (.slice bo m cb) ∧ w'.cell? ⟨w.heap.size + 1, 0, none⟩ = some (.bool t) ∧ w'.cell? ⟨w.heap.size + 1, 1, none⟩ = some (.slice po l cl) ∧ w'.cell? ⟨w.heap.size + 1, 2, none⟩ = some (.slice qo j cj) ∧ Below W1.heap.size W1 w')
      (first | exact KX.out _ (Below.refl _ _).drew | exact KX.out _ (keepB b1 (by assumption) (Nat.le_refl _)) | exact KX.out _ (keepB b2 (by assumption) (Nat.le_refl _)))
      (first
        | (go_at_call_of 25 (Value.agg #[.bool s, .slice ao n ca, .slice bo m cb]); go_split_ands; refine (Sign_q s ao bo n ca m cb k p _ (HX.out _ (by assumption))).mono ?_; rintro e W2 ⟨rfl, b1⟩; rw [SX.out])
        | (go_at_call_of 25 (Value.agg #[.bool t, .slice po l cl, .slice qo j cj]); go_split_ands; refine (Sign_q t po qo l cl j cj k q _ (HY.out _ (by assumption))).mono ?_; rintro e W3 ⟨rfl, b2⟩; rw [SY.out]; have BW : Below W1.heap.size W1 W3 := keepB b2 (by assumption) (Nat.le_refl _)))
    go_wp2_with fail
    go_ret
    exact ⟨ret_i64e hv.out.symm, HB.out _ BW⟩
end Go.Proofs.YtmhjimcdiglpcaaGreat
