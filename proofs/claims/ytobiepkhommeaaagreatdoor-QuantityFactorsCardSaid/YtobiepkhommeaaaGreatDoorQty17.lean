import Derived.Test.YtobiepkhommeaaaGreatDoorQtysB
import Derived.Test.YtobiepkhommeaaaGreatDoorRat11
import Derived.Deep.RegionHeld3
/- Quantities: Factor and Scale of the code and of the reference. -/
namespace Go.Proofs.YtobiepkhommeaaaGreatDoor
open Go.RowKit

/-- a number with an error of its own -/
def QRes (E : Int) (q : Rat) (k : Nat) (w : World) (e : Ending) (w' : World) : Prop := ∃ s ao n ca bo m cb, e = .returned (.tuple #[.agg #[.bool s, .slice ao n ca, .slice bo m cb], .int .i64 E]) ∧ CQ w.heap.size w' s ao n ca bo m cb q k ∧ Below w.heap.size w w'
theorem QRes.lift {E : Int} {q q' : Rat} {k : Nat} {w w1 w2 : World} {s : Bool} {ao : Option Addr} {n ca : Nat} {bo : Option Addr} {m cb : Nat} {g : Nat} (hcq : CQ w1.heap.size w2 s ao n ca bo m cb q' k) (hq : q' = q) (hg : g < w1.heap.size) (hgw : w.heap.size ≤ g) (hb : Below w.heap.size w w2) (u v x : Value) :
    QRes E q k w (.returned (.tuple #[.agg #[.bool s, .slice ao n ca, .slice bo m cb], .int .i64 E])) (((w2.setCell ⟨g, 0, none⟩ u).setCell ⟨g, 1, none⟩ v).setCell ⟨g, 2, none⟩ x) := by
  subst hq
  have h1 := hcq.mono (B' := g + 1) (by omega)
  exact ⟨s, ao, n, ca, bo, m, cb, rfl, (((h1.set_at _ _).set_at _ _).set_at _ _).mono (by omega), below3 hb hgw _ _ _⟩
theorem QRes.bad {E : Int} {q : Rat} {k : Nat} {w w' : World} (hq : q = 0) (hk : 1 ≤ k) (hk2 : k ≤ 549755813888) (hb : Below w.heap.size w w') : QRes E q k w (.returned (.tuple #[.agg #[.bool false, .slice none 0 0, .slice none 0 0], .int .i64 E])) w' := by
  subst hq
  exact ⟨_, _, _, _, _, _, _, rfl, cq_zero _ _ k hk hk2, hb⟩
/-- the error and the value of Factor -/
def facE (d1 c1 a1 d2 c2 a2 : Int) : Int := if qwhy d1 c1 a1 ≠ 0 then qwhy d1 c1 a1 else if qwhy d2 c2 a2 ≠ 0 then qwhy d2 c2 a2 else if d1 ≠ d2 then 84 else 0
def facQ (d1 c1 a1 d2 c2 a2 : Int) : Rat := if facE d1 c1 a1 d2 c2 a2 = 0 then rq false (qtot d2 c2 a2).toNat (qtot d1 c1 a1).toNat else 0
theorem facE_1 {d1 c1 a1 d2 c2 a2 : Int} (h : qwhy d1 c1 a1 ≠ 0) : facE d1 c1 a1 d2 c2 a2 = qwhy d1 c1 a1 := if_pos h
theorem facE_2 {d1 c1 a1 d2 c2 a2 : Int} (h : qwhy d1 c1 a1 = 0) (h2 : qwhy d2 c2 a2 ≠ 0) : facE d1 c1 a1 d2 c2 a2 = qwhy d2 c2 a2 := (if_neg (by simp [h])).trans (if_pos h2)
theorem facE_3 {d1 c1 a1 d2 c2 a2 : Int} (h : qwhy d1 c1 a1 = 0) (h2 : qwhy d2 c2 a2 = 0) (h3 : d1 ≠ d2) : facE d1 c1 a1 d2 c2 a2 = 84 := (if_neg (by simp [h])).trans ((if_neg (by simp [h2])).trans (if_pos h3))
theorem facE_ok {d1 c1 a1 d2 c2 a2 : Int} (h : qwhy d1 c1 a1 = 0) (h2 : qwhy d2 c2 a2 = 0) (h3 : d1 = d2) : facE d1 c1 a1 d2 c2 a2 = 0 := (if_neg (by simp [h])).trans ((if_neg (by simp [h2])).trans (if_neg (by simp [h3])))
theorem facQ_bad {d1 c1 a1 d2 c2 a2 : Int} (h : facE d1 c1 a1 d2 c2 a2 ≠ 0) : facQ d1 c1 a1 d2 c2 a2 = 0 := if_neg h
theorem facQ_ok {d1 c1 a1 d2 c2 a2 : Int} (h : facE d1 c1 a1 d2 c2 a2 = 0) : facQ d1 c1 a1 d2 c2 a2 = rq false (qtot d2 c2 a2).toNat (qtot d1 c1 a1).toNat := if_pos h

theorem FracT (n d : Nat) (hn : n ≤ 1099511627776) (hd : 1 ≤ d) (hd2 : d ≤ 1099511627776) (i j : Int) (hi : i = (n : Int)) (hj : j = (d : Int)) (w : World) : Calls Tryz.prog 60 #[.int .i64 i, .int .i64 j] w (QRes 0 (rq false n d) 2 w) := by
  subst hi hj
  have h := Fraction_any (n : Int) (d : Int) (by omega) (by omega) (by omega) (by omega) w
  rw [decide_eq_false (show ¬ (n : Int) < 0 by omega), decide_eq_false (show ¬ (d : Int) < 0 by omega), Int.natAbs_natCast, Int.natAbs_natCast, show (false != false) = false from rfl] at h
  refine h.mono ?_
  rintro e w' ⟨s, ao, m, ca, bo, l, cb, er, rfl, hcq, hcc, hb⟩
  have her : er = 0 := by
    rcases hcc with ⟨k, _⟩ | ⟨_, k⟩
    · omega
    · exact k
  subst her
  exact ⟨s, ao, m, ca, bo, l, cb, rfl, hcq, hb⟩

theorem rFracT (n d : Nat) (hn : n ≤ 1099511627776) (hd : 1 ≤ d) (hd2 : d ≤ 1099511627776) (i j : Int) (hi : i = (n : Int)) (hj : j = (d : Int)) (w : World) : Calls Tryz.prog 68 #[.int .i64 i, .int .i64 j] w (QRes 0 (rq false n d) 2 w) := by
  subst hi hj
  have h := rFraction_any (n : Int) (d : Int) (by omega) (by omega) (by omega) (by omega) w
  rw [decide_eq_false (show ¬ (n : Int) < 0 by omega), decide_eq_false (show ¬ (d : Int) < 0 by omega), Int.natAbs_natCast, Int.natAbs_natCast, show (false != false) = false from rfl] at h
  refine h.mono ?_
  rintro e w' ⟨s, ao, m, ca, bo, l, cb, er, rfl, hcq, hcc, hb⟩
  have her : er = 0 := by
    rcases hcc with ⟨k, _⟩ | ⟨_, k⟩
    · omega
    · exact k
  subst her
  exact ⟨s, ao, m, ca, bo, l, cb, rfl, hcq, hb⟩

theorem BoxT.of_below {t : TypeId} {w w' : World} {g : Nat} (h : BoxT t w g) (hb : Below w.heap.size w w') : BoxT t w' g := by
  obtain ⟨u, v, x, h⟩ := h
  exact ⟨u, v, x, carry h hb⟩
theorem BoxT.drew {t : TypeId} {w : World} {g : Nat} (h : BoxT t w g) : BoxT t w.drew g := h

set_option maxHeartbeats 16000000 in
set_option maxRecDepth 100000 in
theorem Factor_v (d1 c1 a1 d2 c2 a2 : Int) (hb1 : QB d1 c1 a1) (hb2 : QB d2 c2 a2) (w : World) :
    Calls Tryz.prog 32 #[.agg #[.int .i64 d1, .int .i64 c1, .int .i64 a1], .agg #[.int .i64 d2, .int .i64 c2, .int .i64 a2]] w (QRes (facE d1 c1 a1 d2 c2 a2) (facQ d1 c1 a1 d2 c2 a2) 2 w) := by
  obtain ⟨y1, hy1⟩ : ∃ y, y = qwhy d1 c1 a1 := ⟨_, rfl⟩
  obtain ⟨y2, hy2⟩ : ∃ y, y = qwhy d2 c2 a2 := ⟨_, rfl⟩
  have V1 : Hid (∀ w', Calls Tryz.prog 63 #[.agg #[.int .i64 d1, .int .i64 c1, .int .i64 a1]] w' fun e w2 => e = .returned (.int .i64 y1) ∧ Below w'.heap.size w' w2) := fun w' => by rw [hy1]; exact Validate_q d1 c1 a1 hb1 w'
  have V2 : Hid (∀ w', Calls Tryz.prog 63 #[.agg #[.int .i64 d2, .int .i64 c2, .int .i64 a2]] w' fun e w2 => e = .returned (.int .i64 y2) ∧ Below w'.heap.size w' w2) := fun w' => by rw [hy2]; exact Validate_q d2 c2 a2 hb2 w'
  obtain ⟨E, hE⟩ : ∃ E, E = facE d1 c1 a1 d2 c2 a2 := ⟨_, rfl⟩
  obtain ⟨Q, hQ⟩ : ∃ Q, Q = facQ d1 c1 a1 d2 c2 a2 := ⟨_, rfl⟩
  rw [← hE, ← hQ]
  have hQ0 : E ≠ 0 → Q = 0 := fun h => by rw [hQ]; exact facQ_bad (by rw [← hE]; exact h)
  obtain ⟨Wa, hWa⟩ : ∃ W, W = w.alloc (.cells #[.int .i64 d1, .int .i64 c1, .int .i64 a1] 39) := ⟨_, rfl⟩
  obtain ⟨Wb, hWb⟩ : ∃ W, W = Wa.alloc (.cells #[.int .i64 d2, .int .i64 c2, .int .i64 a2] 39) := ⟨_, rfl⟩
  obtain ⟨W1, hW1⟩ : ∃ W, W = Wb.alloc (.cells #[.bool false, .slice none 0 0, .slice none 0 0] 25) := ⟨_, rfl⟩
  have sa : Wa.heap.size = w.heap.size + 1 := by rw [hWa]; exact World.size_alloc _ _
  have sb : Wb.heap.size = w.heap.size + 1 + 1 := by rw [hWb, World.size_alloc, sa]
  have s1 : W1.heap.size = w.heap.size + 1 + 1 + 1 := by rw [hW1, World.size_alloc, sb]
  have ba : Below w.heap.size w Wa := by rw [hWa]; exact below_new _ _
  have bb : Below Wa.heap.size Wa Wb := by rw [hWb]; exact below_new _ _
  have bc : Below Wb.heap.size Wb W1 := by rw [hW1]; exact below_new _ _
  have xa : Wa.heap[w.heap.size]? = some (.cells #[.int .i64 d1, .int .i64 c1, .int .i64 a1] 39 (0, 0)) := by rw [hWa]; exact heap_alloc_new _ _
  have xb : Wb.heap[w.heap.size + 1]? = some (.cells #[.int .i64 d2, .int .i64 c2, .int .i64 a2] 39 (0, 0)) := by rw [hWb, ← sa]; exact heap_alloc_new _ _
  have xc : W1.heap[w.heap.size + 1 + 1]? = some (.cells #[.bool false, .slice none 0 0, .slice none 0 0] 25 (0, 0)) := by rw [hW1, ← sb]; exact heap_alloc_new _ _
  have XA := Lib.hid (carry (carry xa bb) bc)
  have XB := Lib.hid (carry xb bc)
  have XC := Lib.hid xc
  have B1 := Lib.hid ((ba.trans (bb.mono ba.size)).trans (bc.mono (Nat.le_trans ba.size bb.size)))
  have HS := Lib.hid s1
  clear sa sb ba bb bc xa xb xc s1
  obtain ⟨k0, k1, k2, _⟩ := at_blockQ XA.out
  by_cases h1 : y1 = 0
  · have h1b : (y1 != 0) = false := by rw [h1]; rfl
    by_cases h2 : y2 = 0
    · have h2b : (y2 != 0) = false := by rw [h2]; rfl
      by_cases h3 : d1 = d2
      · have hE0 : E = 0 := by rw [hE]; exact facE_ok (by rw [← hy1]; exact h1) (by rw [← hy2]; exact h2) h3
        have t1 := qtot_pos (show qwhy d1 c1 a1 = 0 by rw [← hy1]; exact h1)
        have t2 := qtot_pos (show qwhy d2 c2 a2 = 0 by rw [← hy2]; exact h2)
        obtain ⟨T1, hT1⟩ : ∃ T : Nat, T = (qtot d1 c1 a1).toNat := ⟨_, rfl⟩
        obtain ⟨T2, hT2⟩ : ∃ T : Nat, T = (qtot d2 c2 a2).toNat := ⟨_, rfl⟩
        have HQQ : Hid (rq false T2 T1 = Q) := by unfold Hid; rw [hQ, facQ_ok (by rw [← hE]; exact hE0), hT1, hT2]
        have TA : Hid (∀ w', Calls Tryz.prog 73 #[.agg #[.int .i64 d1, .int .i64 c1, .int .i64 a1]] w' fun e w2 => e = .returned (.int .i64 (T1 : Int)) ∧ Below w'.heap.size w' w2) := fun w' => by
          have h := Total_q d1 c1 a1 hb1 w'
          rwa [show qtot d1 c1 a1 = (T1 : Int) by omega] at h
        have TB : Hid (∀ w', Calls Tryz.prog 73 #[.agg #[.int .i64 d2, .int .i64 c2, .int .i64 a2]] w' fun e w2 => e = .returned (.int .i64 (T2 : Int)) ∧ Below w'.heap.size w' w2) := fun w' => by
          have h := Total_q d2 c2 a2 hb2 w'
          rwa [show qtot d2 c2 a2 = (T2 : Int) by omega] at h
        have FR : Hid (∀ w', Calls Tryz.prog 60 #[.int .i64 (T2 : Int), .int .i64 (T1 : Int)] w' (QRes 0 (rq false T2 T1) 2 w')) := fun w' => FracT T2 T1 (by omega) (by omega) (by omega) _ _ rfl rfl w'
        have KK : Hid (∀ w', Below (w.heap.size + 1 + 1) W1 w' → BoxT 25 w' (w.heap.size + 1 + 1) → w'.cell? ⟨w.heap.size, 0, none⟩ = some (.int .i64 d1) ∧ w'.cell? ⟨w.heap.size, 1, none⟩ = some (.int .i64 c1) ∧ w'.cell? ⟨w.heap.size, 2, none⟩ = some (.int .i64 a1) ∧ w'.cell? ⟨w.heap.size + 1, 0, none⟩ = some (.int .i64 d2) ∧ w'.cell? ⟨w.heap.size + 1, 1, none⟩ = some (.int .i64 c2) ∧ w'.cell? ⟨w.heap.size + 1, 2, none⟩ = some (.int .i64 a2) ∧ BoxT 25 w' (w.heap.size + 1 + 1) ∧ Below (w.heap.size + 1 + 1) W1 w') := fun w' hb hx => by
          obtain ⟨i0, i1, i2, _⟩ := at_blockQ ((hb.block w.heap.size (by omega)).trans XA.out)
          obtain ⟨j0, j1, j2, _⟩ := at_blockQ ((hb.block (w.heap.size + 1) (by omega)).trans XB.out)
          exact ⟨i0, i1, i2, j0, j1, j2, hx, hb⟩
        have hsz : w.heap.size + 1 + 1 ≤ W1.heap.size := by have := HS.out; omega
        have HSZ := Lib.hid hsz
        have X0 : BoxT 25 W1 (w.heap.size + 1 + 1) := ⟨_, _, _, XC.out⟩
        have h3b : (d1 != d2) = false := by simp [h3]
        subst hE0
        clear hE hQ hQ0 hT1 hT2 t1 t2 hy1 hy2 hb1 hb2 hsz
        subst h1 h2 h3
        go_enter Tryz.func32, Tryz.ntmps32
        go_wp2_with fail
        rw [← hWa, ← hWb, ← hW1]
        clear hW1 hWa hWb
        refine (V1.out _).mono ?_; rintro e W2 ⟨rfl, b2⟩
        have X2 := Lib.hid (BoxT.of_below X0 b2)
        have B2 := Lib.hid (keepB b2 (Below.refl (w.heap.size + 1 + 1) W1) HSZ.out)
        obtain ⟨k0, k1, k2, j0, j1, j2, _⟩ := KK.out _ B2.out X2.out
        clear b2
        go_wp2_with fail
        refine (V2.out _).mono ?_; rintro e W3 ⟨rfl, b3⟩
        have X3 := BoxT.of_below X2.out b3
        have B3 := keepB b3 B2.out HSZ.out
        clear b3 k0 k1 k2 j0 j1 j2
        obtain ⟨k0, k1, k2, j0, j1, j2, _⟩ := KK.out _ B3 X3
        go_upto_region 9 with fail
        go_region_held3 (fun w' => w'.cell? ⟨w.heap.size, 0, none⟩ = some (.int .i64 d1) ∧ w'.cell? ⟨w.heap.size, 1, none⟩ = some (.int .i64 c1) ∧ w'.cell? ⟨w.heap.size, 2, none⟩ = some (.int .i64 a1) ∧ w'.cell? ⟨w.heap.size + 1, 0, none⟩ = some (.int .i64 d1) ∧ w'.cell? ⟨w.heap.size + 1, 1, none⟩ = some (.int .i64 c2) ∧ w'.cell? ⟨w.heap.size + 1, 2, none⟩ = some (.int .i64 a2) ∧ BoxT 25 w' (w.heap.size + 1 + 1) ∧ Below (w.heap.size + 1 + 1) W1 w')
          (first | exact KK.out _ (B3.trans (Below.refl _ _).drew) X3.drew | exact KK.out _ (keepB b4 (by assumption) HSZ.out) (BoxT.of_below (by assumption) b4) | exact KK.out _ (keepB b5 (by assumption) HSZ.out) (BoxT.of_below (by assumption) b5) | exact KK.out _ BW XW | exact KK.out _ (below3 BW (Nat.le_refl _) _ _ _) (XW.set3 _ _ _))
          (first
            | (go_at_call_of 73 (Value.agg #[.int .i64 d1, .int .i64 c2, .int .i64 a2]); go_split_ands; refine (TB.out _).mono ?_; rintro e W4 ⟨rfl, b4⟩)
            | (go_at_call 73; go_split_ands; refine (TA.out _).mono ?_; rintro e W5 ⟨rfl, b5⟩)
            | (go_at_call 60; go_split_ands; refine (FR.out _).mono ?_; rintro e W9 ⟨s9, a9, n9, c9, o9, m9, d9, rfl, hcq, b9⟩; have BW : Below (w.heap.size + 1 + 1) W1 W9 := keepB b9 (by assumption) HSZ.out; have XW : BoxT 25 W9 (w.heap.size + 1 + 1) := BoxT.of_below (by assumption) b9; obtain ⟨u0, u1, u2, q0, q1, q2, z0, z1, z2⟩ := XW.facts))
        go_wp2_with fail
        refine bodyPost_ret (v := .tuple #[.agg #[.bool s9, .slice a9 n9 c9, .slice o9 m9 d9], .int .i64 0]) (by simp [results, Tryz.results32, go_sem, q0, q1, q2]) rfl ?_
        exact QRes.lift hcq HQQ.out (BoxT.lt (by assumption)) (by omega) (B1.out.trans (BW.mono (by omega))) _ _ _
      · have hE0 : E = 84 := by rw [hE]; exact facE_3 (by rw [← hy1]; exact h1) (by rw [← hy2]; exact h2) h3
        have HQZ := Lib.hid (hQ0 (by omega))
        have h3b : (d1 != d2) = true := by simp [h3]
        have h3e : (d1 == d2) = false := by simp [h3]
        subst hE0
        clear hE hQ hQ0 hy1 hy2 hb1 hb2 h1 h2
        go_enter Tryz.func32, Tryz.ntmps32
        go_wp2_with fail
        rw [← hWa, ← hWb, ← hW1]
        clear hW1 hWa hWb
        refine (V1.out _).mono ?_; rintro e W2 ⟨rfl, b2⟩
        have B2 := Lib.hid (B1.out.trans (b2.mono B1.out.size))
        have XA2 := Lib.hid (carry XA.out b2)
        have XB2 := Lib.hid (carry XB.out b2)
        have XC2 := Lib.hid (carry XC.out b2)
        clear b2 k0 k1 k2
        obtain ⟨j0, j1, j2, _⟩ := at_blockQ XB2.out
        go_wp2_with fail
        refine (V2.out _).mono ?_; rintro e W3 ⟨rfl, b3⟩
        have B3 := Lib.hid (B2.out.trans (b3.mono B2.out.size))
        obtain ⟨k0, k1, k2, _⟩ := at_blockQ (carry XA2.out b3)
        have xb3 := carry XB2.out b3
        have xc3 := carry XC2.out b3
        clear b3 j0 j1 j2
        obtain ⟨j0, j1, j2, _⟩ := at_blockQ xb3
        obtain ⟨q0, q1, q2, z0, z1, z2⟩ := at_blockQ xc3
        clear xb3 xc3
        go_wp2_with fail
        refine bodyPost_ret (v := .tuple #[.agg #[.bool false, .slice none 0 0, .slice none 0 0], .int .i64 84]) (by simp [results, Tryz.results32, go_sem, q0, q1, q2]) rfl ?_
        exact QRes.bad HQZ.out (by omega) (by omega) (by first | exact below3 B3.out (by omega) _ _ _ | exact B3.out)
    · have h2b : (y2 != 0) = true := by simp [h2]
      have hE0 : E = y2 := by rw [hE, facE_2 (by rw [← hy1]; exact h1) (by rw [← hy2]; exact h2), hy2]
      have HQZ := Lib.hid (hQ0 (by rw [hE0]; exact h2))
      subst hE0
      clear hE hQ hQ0 hy1 hy2 hb1 hb2 h1 h2
      go_enter Tryz.func32, Tryz.ntmps32
      go_wp2_with fail
      rw [← hWa, ← hWb, ← hW1]
      clear hW1 hWa hWb
      refine (V1.out _).mono ?_; rintro e W2 ⟨rfl, b2⟩
      have B2 := Lib.hid (B1.out.trans (b2.mono B1.out.size))
      have XB2 := Lib.hid (carry XB.out b2)
      have XC2 := Lib.hid (carry XC.out b2)
      clear b2 k0 k1 k2
      obtain ⟨j0, j1, j2, _⟩ := at_blockQ XB2.out
      go_wp2_with fail
      refine (V2.out _).mono ?_; rintro e W3 ⟨rfl, b3⟩
      have B3 := Lib.hid (B2.out.trans (b3.mono B2.out.size))
      have xc3 := carry XC2.out b3
      clear b3 j0 j1 j2
      obtain ⟨q0, q1, q2, z0, z1, z2⟩ := at_blockQ xc3
      clear xc3
      go_wp2_with fail
      refine bodyPost_ret (v := .tuple #[.agg #[.bool false, .slice none 0 0, .slice none 0 0], .int .i64 E]) (by simp [results, Tryz.results32, go_sem, q0, q1, q2]) rfl ?_
      exact QRes.bad HQZ.out (by omega) (by omega) (by first | exact below3 B3.out (by omega) _ _ _ | exact B3.out)
  · have h1b : (y1 != 0) = true := by simp [h1]
    have hE0 : E = y1 := by rw [hE, facE_1 (by rw [← hy1]; exact h1), hy1]
    have HQZ := Lib.hid (hQ0 (by rw [hE0]; exact h1))
    subst hE0
    clear hE hQ hQ0 hy1 hy2 hb1 hb2 h1
    go_enter Tryz.func32, Tryz.ntmps32
    go_wp2_with fail
    rw [← hWa, ← hWb, ← hW1]
    clear hW1 hWa hWb
    refine (V1.out _).mono ?_; rintro e W2 ⟨rfl, b2⟩
    have B2 := Lib.hid (B1.out.trans (b2.mono B1.out.size))
    have xc2 := carry XC.out b2
    clear b2 k0 k1 k2
    obtain ⟨q0, q1, q2, z0, z1, z2⟩ := at_blockQ xc2
    clear xc2
    go_wp2_with fail
    refine bodyPost_ret (v := .tuple #[.agg #[.bool false, .slice none 0 0, .slice none 0 0], .int .i64 E]) (by simp [results, Tryz.results32, go_sem, q0, q1, q2]) rfl ?_
    exact QRes.bad HQZ.out (by omega) (by omega) (by first | exact below3 B2.out (by omega) _ _ _ | exact B2.out)

set_option maxHeartbeats 16000000 in
set_option maxRecDepth 100000 in
theorem rFactor_v (d1 c1 a1 d2 c2 a2 : Int) (hb1 : QB d1 c1 a1) (hb2 : QB d2 c2 a2) (w : World) :
    Calls Tryz.prog 33 #[.agg #[.int .i64 d1, .int .i64 c1, .int .i64 a1], .agg #[.int .i64 d2, .int .i64 c2, .int .i64 a2]] w (QRes (facE d1 c1 a1 d2 c2 a2) (facQ d1 c1 a1 d2 c2 a2) 2 w) := by
  obtain ⟨y1, hy1⟩ : ∃ y, y = qwhy d1 c1 a1 := ⟨_, rfl⟩
  obtain ⟨y2, hy2⟩ : ∃ y, y = qwhy d2 c2 a2 := ⟨_, rfl⟩
  have V1 : Hid (∀ w', Calls Tryz.prog 28 #[.agg #[.int .i64 d1, .int .i64 c1, .int .i64 a1]] w' fun e w2 => e = .returned (.int .i64 y1) ∧ Below w'.heap.size w' w2) := fun w' => by rw [hy1]; exact rValidate_q d1 c1 a1 hb1 w'
  have V2 : Hid (∀ w', Calls Tryz.prog 28 #[.agg #[.int .i64 d2, .int .i64 c2, .int .i64 a2]] w' fun e w2 => e = .returned (.int .i64 y2) ∧ Below w'.heap.size w' w2) := fun w' => by rw [hy2]; exact rValidate_q d2 c2 a2 hb2 w'
  obtain ⟨E, hE⟩ : ∃ E, E = facE d1 c1 a1 d2 c2 a2 := ⟨_, rfl⟩
  obtain ⟨Q, hQ⟩ : ∃ Q, Q = facQ d1 c1 a1 d2 c2 a2 := ⟨_, rfl⟩
  rw [← hE, ← hQ]
  have hQ0 : E ≠ 0 → Q = 0 := fun h => by rw [hQ]; exact facQ_bad (by rw [← hE]; exact h)
  obtain ⟨Wa, hWa⟩ : ∃ W, W = w.alloc (.cells #[.int .i64 d1, .int .i64 c1, .int .i64 a1] 39) := ⟨_, rfl⟩
  obtain ⟨Wb, hWb⟩ : ∃ W, W = Wa.alloc (.cells #[.int .i64 d2, .int .i64 c2, .int .i64 a2] 39) := ⟨_, rfl⟩
  obtain ⟨W1, hW1⟩ : ∃ W, W = Wb.alloc (.cells #[.bool false, .slice none 0 0, .slice none 0 0] 25) := ⟨_, rfl⟩
  have sa : Wa.heap.size = w.heap.size + 1 := by rw [hWa]; exact World.size_alloc _ _
  have sb : Wb.heap.size = w.heap.size + 1 + 1 := by rw [hWb, World.size_alloc, sa]
  have s1 : W1.heap.size = w.heap.size + 1 + 1 + 1 := by rw [hW1, World.size_alloc, sb]
  have ba : Below w.heap.size w Wa := by rw [hWa]; exact below_new _ _
  have bb : Below Wa.heap.size Wa Wb := by rw [hWb]; exact below_new _ _
  have bc : Below Wb.heap.size Wb W1 := by rw [hW1]; exact below_new _ _
  have xa : Wa.heap[w.heap.size]? = some (.cells #[.int .i64 d1, .int .i64 c1, .int .i64 a1] 39 (0, 0)) := by rw [hWa]; exact heap_alloc_new _ _
  have xb : Wb.heap[w.heap.size + 1]? = some (.cells #[.int .i64 d2, .int .i64 c2, .int .i64 a2] 39 (0, 0)) := by rw [hWb, ← sa]; exact heap_alloc_new _ _
  have xc : W1.heap[w.heap.size + 1 + 1]? = some (.cells #[.bool false, .slice none 0 0, .slice none 0 0] 25 (0, 0)) := by rw [hW1, ← sb]; exact heap_alloc_new _ _
  have XA := Lib.hid (carry (carry xa bb) bc)
  have XB := Lib.hid (carry xb bc)
  have XC := Lib.hid xc
  have B1 := Lib.hid ((ba.trans (bb.mono ba.size)).trans (bc.mono (Nat.le_trans ba.size bb.size)))
  have HS := Lib.hid s1
  clear sa sb ba bb bc xa xb xc s1
  obtain ⟨k0, k1, k2, _⟩ := at_blockQ XA.out
  by_cases h1 : y1 = 0
  · have h1b : (y1 != 0) = false := by rw [h1]; rfl
    by_cases h2 : y2 = 0
    · have h2b : (y2 != 0) = false := by rw [h2]; rfl
      by_cases h3 : d1 = d2
      · have hE0 : E = 0 := by rw [hE]; exact facE_ok (by rw [← hy1]; exact h1) (by rw [← hy2]; exact h2) h3
        have t1 := qtot_pos (show qwhy d1 c1 a1 = 0 by rw [← hy1]; exact h1)
        have t2 := qtot_pos (show qwhy d2 c2 a2 = 0 by rw [← hy2]; exact h2)
        obtain ⟨T1, hT1⟩ : ∃ T : Nat, T = (qtot d1 c1 a1).toNat := ⟨_, rfl⟩
        obtain ⟨T2, hT2⟩ : ∃ T : Nat, T = (qtot d2 c2 a2).toNat := ⟨_, rfl⟩
        have HQQ : Hid (rq false T2 T1 = Q) := by unfold Hid; rw [hQ, facQ_ok (by rw [← hE]; exact hE0), hT1, hT2]
        have TA : Hid (∀ w', Calls Tryz.prog 84 #[.agg #[.int .i64 d1, .int .i64 c1, .int .i64 a1]] w' fun e w2 => e = .returned (.int .i64 (T1 : Int)) ∧ Below w'.heap.size w' w2) := fun w' => by
          have h := rTotal_q d1 c1 a1 hb1 w'
          rwa [show qtot d1 c1 a1 = (T1 : Int) by omega] at h
        have TB : Hid (∀ w', Calls Tryz.prog 84 #[.agg #[.int .i64 d2, .int .i64 c2, .int .i64 a2]] w' fun e w2 => e = .returned (.int .i64 (T2 : Int)) ∧ Below w'.heap.size w' w2) := fun w' => by
          have h := rTotal_q d2 c2 a2 hb2 w'
          rwa [show qtot d2 c2 a2 = (T2 : Int) by omega] at h
        have FR : Hid (∀ w', Calls Tryz.prog 68 #[.int .i64 (T2 : Int), .int .i64 (T1 : Int)] w' (QRes 0 (rq false T2 T1) 2 w')) := fun w' => rFracT T2 T1 (by omega) (by omega) (by omega) _ _ rfl rfl w'
        have KK : Hid (∀ w', Below (w.heap.size + 1 + 1) W1 w' → BoxT 25 w' (w.heap.size + 1 + 1) → w'.cell? ⟨w.heap.size, 0, none⟩ = some (.int .i64 d1) ∧ w'.cell? ⟨w.heap.size, 1, none⟩ = some (.int .i64 c1) ∧ w'.cell? ⟨w.heap.size, 2, none⟩ = some (.int .i64 a1) ∧ w'.cell? ⟨w.heap.size + 1, 0, none⟩ = some (.int .i64 d2) ∧ w'.cell? ⟨w.heap.size + 1, 1, none⟩ = some (.int .i64 c2) ∧ w'.cell? ⟨w.heap.size + 1, 2, none⟩ = some (.int .i64 a2) ∧ BoxT 25 w' (w.heap.size + 1 + 1) ∧ Below (w.heap.size + 1 + 1) W1 w') := fun w' hb hx => by
          obtain ⟨i0, i1, i2, _⟩ := at_blockQ ((hb.block w.heap.size (by omega)).trans XA.out)
          obtain ⟨j0, j1, j2, _⟩ := at_blockQ ((hb.block (w.heap.size + 1) (by omega)).trans XB.out)
          exact ⟨i0, i1, i2, j0, j1, j2, hx, hb⟩
        have hsz : w.heap.size + 1 + 1 ≤ W1.heap.size := by have := HS.out; omega
        have HSZ := Lib.hid hsz
        have X0 : BoxT 25 W1 (w.heap.size + 1 + 1) := ⟨_, _, _, XC.out⟩
        have h3b : (d1 != d2) = false := by simp [h3]
        subst hE0
        clear hE hQ hQ0 hT1 hT2 t1 t2 hy1 hy2 hb1 hb2 hsz
        subst h1 h2 h3
        go_enter Tryz.func33, Tryz.ntmps33
        go_wp2_with fail
        rw [← hWa, ← hWb, ← hW1]
        clear hW1 hWa hWb
        refine (V1.out _).mono ?_; rintro e W2 ⟨rfl, b2⟩
        have X2 := Lib.hid (BoxT.of_below X0 b2)
        have B2 := Lib.hid (keepB b2 (Below.refl (w.heap.size + 1 + 1) W1) HSZ.out)
        obtain ⟨k0, k1, k2, j0, j1, j2, _⟩ := KK.out _ B2.out X2.out
        clear b2
        go_wp2_with fail
        refine (V2.out _).mono ?_; rintro e W3 ⟨rfl, b3⟩
        have X3 := BoxT.of_below X2.out b3
        have B3 := keepB b3 B2.out HSZ.out
        clear b3 k0 k1 k2 j0 j1 j2
        obtain ⟨k0, k1, k2, j0, j1, j2, _⟩ := KK.out _ B3 X3
        go_upto_region 9 with fail
        go_region_held3 (fun w' => w'.cell? ⟨w.heap.size, 0, none⟩ = some (.int .i64 d1) ∧ w'.cell? ⟨w.heap.size, 1, none⟩ = some (.int .i64 c1) ∧ w'.cell? ⟨w.heap.size, 2, none⟩ = some (.int .i64 a1) ∧ w'.cell? ⟨w.heap.size + 1, 0, none⟩ = some (.int .i64 d1) ∧ w'.cell? ⟨w.heap.size + 1, 1, none⟩ = some (.int .i64 c2) ∧ w'.cell? ⟨w.heap.size + 1, 2, none⟩ = some (.int .i64 a2) ∧ BoxT 25 w' (w.heap.size + 1 + 1) ∧ Below (w.heap.size + 1 + 1) W1 w')
          (first | exact KK.out _ (B3.trans (Below.refl _ _).drew) X3.drew | exact KK.out _ (keepB b4 (by assumption) HSZ.out) (BoxT.of_below (by assumption) b4) | exact KK.out _ (keepB b5 (by assumption) HSZ.out) (BoxT.of_below (by assumption) b5) | exact KK.out _ BW XW | exact KK.out _ (below3 BW (Nat.le_refl _) _ _ _) (XW.set3 _ _ _))
          (first
            | (go_at_call_of 84 (Value.agg #[.int .i64 d1, .int .i64 c2, .int .i64 a2]); go_split_ands; refine (TB.out _).mono ?_; rintro e W4 ⟨rfl, b4⟩)
            | (go_at_call 84; go_split_ands; refine (TA.out _).mono ?_; rintro e W5 ⟨rfl, b5⟩)
            | (go_at_call 68; go_split_ands; refine (FR.out _).mono ?_; rintro e W9 ⟨s9, a9, n9, c9, o9, m9, d9, rfl, hcq, b9⟩; have BW : Below (w.heap.size + 1 + 1) W1 W9 := keepB b9 (by assumption) HSZ.out; have XW : BoxT 25 W9 (w.heap.size + 1 + 1) := BoxT.of_below (by assumption) b9; obtain ⟨u0, u1, u2, q0, q1, q2, z0, z1, z2⟩ := XW.facts))
        go_wp2_with fail
        refine bodyPost_ret (v := .tuple #[.agg #[.bool s9, .slice a9 n9 c9, .slice o9 m9 d9], .int .i64 0]) (by simp [results, Tryz.results33, go_sem, q0, q1, q2]) rfl ?_
        exact QRes.lift hcq HQQ.out (BoxT.lt (by assumption)) (by omega) (B1.out.trans (BW.mono (by omega))) _ _ _
      · have hE0 : E = 84 := by rw [hE]; exact facE_3 (by rw [← hy1]; exact h1) (by rw [← hy2]; exact h2) h3
        have HQZ := Lib.hid (hQ0 (by omega))
        have h3b : (d1 != d2) = true := by simp [h3]
        have h3e : (d1 == d2) = false := by simp [h3]
        subst hE0
        clear hE hQ hQ0 hy1 hy2 hb1 hb2 h1 h2
        go_enter Tryz.func33, Tryz.ntmps33
        go_wp2_with fail
        rw [← hWa, ← hWb, ← hW1]
        clear hW1 hWa hWb
        refine (V1.out _).mono ?_; rintro e W2 ⟨rfl, b2⟩
        have B2 := Lib.hid (B1.out.trans (b2.mono B1.out.size))
        have XA2 := Lib.hid (carry XA.out b2)
        have XB2 := Lib.hid (carry XB.out b2)
        have XC2 := Lib.hid (carry XC.out b2)
        clear b2 k0 k1 k2
        obtain ⟨j0, j1, j2, _⟩ := at_blockQ XB2.out
        go_wp2_with fail
        refine (V2.out _).mono ?_; rintro e W3 ⟨rfl, b3⟩
        have B3 := Lib.hid (B2.out.trans (b3.mono B2.out.size))
        obtain ⟨k0, k1, k2, _⟩ := at_blockQ (carry XA2.out b3)
        have xb3 := carry XB2.out b3
        have xc3 := carry XC2.out b3
        clear b3 j0 j1 j2
        obtain ⟨j0, j1, j2, _⟩ := at_blockQ xb3
        obtain ⟨q0, q1, q2, z0, z1, z2⟩ := at_blockQ xc3
        clear xb3 xc3
        go_wp2_with fail
        refine bodyPost_ret (v := .tuple #[.agg #[.bool false, .slice none 0 0, .slice none 0 0], .int .i64 84]) (by simp [results, Tryz.results33, go_sem, q0, q1, q2]) rfl ?_
        exact QRes.bad HQZ.out (by omega) (by omega) (by first | exact below3 B3.out (by omega) _ _ _ | exact B3.out)
    · have h2b : (y2 != 0) = true := by simp [h2]
      have hE0 : E = y2 := by rw [hE, facE_2 (by rw [← hy1]; exact h1) (by rw [← hy2]; exact h2), hy2]
      have HQZ := Lib.hid (hQ0 (by rw [hE0]; exact h2))
      subst hE0
      clear hE hQ hQ0 hy1 hy2 hb1 hb2 h1 h2
      go_enter Tryz.func33, Tryz.ntmps33
      go_wp2_with fail
      rw [← hWa, ← hWb, ← hW1]
      clear hW1 hWa hWb
      refine (V1.out _).mono ?_; rintro e W2 ⟨rfl, b2⟩
      have B2 := Lib.hid (B1.out.trans (b2.mono B1.out.size))
      have XB2 := Lib.hid (carry XB.out b2)
      have XC2 := Lib.hid (carry XC.out b2)
      clear b2 k0 k1 k2
      obtain ⟨j0, j1, j2, _⟩ := at_blockQ XB2.out
      go_wp2_with fail
      refine (V2.out _).mono ?_; rintro e W3 ⟨rfl, b3⟩
      have B3 := Lib.hid (B2.out.trans (b3.mono B2.out.size))
      have xc3 := carry XC2.out b3
      clear b3 j0 j1 j2
      obtain ⟨q0, q1, q2, z0, z1, z2⟩ := at_blockQ xc3
      clear xc3
      go_wp2_with fail
      refine bodyPost_ret (v := .tuple #[.agg #[.bool false, .slice none 0 0, .slice none 0 0], .int .i64 E]) (by simp [results, Tryz.results33, go_sem, q0, q1, q2]) rfl ?_
      exact QRes.bad HQZ.out (by omega) (by omega) (by first | exact below3 B3.out (by omega) _ _ _ | exact B3.out)
  · have h1b : (y1 != 0) = true := by simp [h1]
    have hE0 : E = y1 := by rw [hE, facE_1 (by rw [← hy1]; exact h1), hy1]
    have HQZ := Lib.hid (hQ0 (by rw [hE0]; exact h1))
    subst hE0
    clear hE hQ hQ0 hy1 hy2 hb1 hb2 h1
    go_enter Tryz.func33, Tryz.ntmps33
    go_wp2_with fail
    rw [← hWa, ← hWb, ← hW1]
    clear hW1 hWa hWb
    refine (V1.out _).mono ?_; rintro e W2 ⟨rfl, b2⟩
    have B2 := Lib.hid (B1.out.trans (b2.mono B1.out.size))
    have xc2 := carry XC.out b2
    clear b2 k0 k1 k2
    obtain ⟨q0, q1, q2, z0, z1, z2⟩ := at_blockQ xc2
    clear xc2
    go_wp2_with fail
    refine bodyPost_ret (v := .tuple #[.agg #[.bool false, .slice none 0 0, .slice none 0 0], .int .i64 E]) (by simp [results, Tryz.results33, go_sem, q0, q1, q2]) rfl ?_
    exact QRes.bad HQZ.out (by omega) (by omega) (by first | exact below3 B2.out (by omega) _ _ _ | exact B2.out)
end Go.Proofs.YtobiepkhommeaaaGreatDoor
