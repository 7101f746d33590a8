import Derived.Test.YtbfmmkglfmlglaaDoorPowsA
import Derived.Test.YtbfmmkglfmlglaaDoorRat18
/- Contracts: the reference's powers of 1 and of -1. -/
namespace Go.Proofs.YtbfmmkglfmlglaaDoor
open Go.RowKit

set_option maxHeartbeats 20000000 in
set_option maxRecDepth 100000 in
theorem rPower_unit (s : Bool) (ao bo : Option Addr) (n ca m cb j : Nat) (ng : Bool) (i : Int) (q : Rat) (w : World) (h : RQ w s ao n ca bo m cb q 2) (hq0 : q ≠ 0) (hj2 : j ≤ 9223372036854775808) (hi : i = if ng then -(j : Int) else (j : Int)) (hi2 : i ≤ 9223372036854775807) (hs2 : max (bl (rn q)) (bl q.den) = 1) :
    Calls Tryd.prog 13 #[.agg #[.bool s, .slice ao n ca, .slice bo m cb], .int .i64 i] w (MakesE (powE q j ng) 200 w) := by
  obtain ⟨W1, hW1, hsz, B0, X0, K0⟩ := boxes1 w s ao n ca bo m cb
  have h1 := h.below B0
  have hib : -9223372036854775808 ≤ i ∧ i ≤ 9223372036854775807 := by refine ⟨?_, hi2⟩; rw [hi]; split <;> omega
  obtain ⟨hib1, hib2⟩ := hib
  have hb1 : Below (w.heap.size + 1) W1 W1 := Below.refl _ _
  obtain ⟨e0, e1, e2, _⟩ := K0.out W1 hb1 X0
  have hBX : Box3 W1 w.heap.size := by
    rw [hW1]
    exact ⟨_, _, _, (Below.heap_alloc _ _ _ (by simp)).trans (heap_alloc_new w _)⟩
  have HQ0 := Lib.hid hq0
  have HI := Lib.hid hi
  have HS22 := Lib.hid hs2
  clear h hsz hq0 hb1 hi hi2 hs2
  go_enter Tryd.func13, Tryd.ntmps13
  go_wp2_with fail
  rw [← hW1]
  clear hW1
  refine (rNormalize_q s ao bo n ca m cb 2 q _ h1).mono ?_; rintro e W2 ⟨s2, a2, n2, c2, o2, m2, d2, rfl, cq2, b2⟩
  have Y2 := hBX.below b2
  have X2 := X0.below b2
  obtain ⟨v0, v1, v2, y0, y1, y2, t0, t1, t2⟩ := Y2.facts
  have hE := below3 (B := w.heap.size) (B0.trans (b2.mono B0.size)) (Nat.le_refl _) (.bool s2) (.slice a2 n2 c2) (.slice o2 m2 d2)
  have X3 : Box3 (((W2.setCell ⟨w.heap.size, 0, none⟩ (.bool s2)).setCell ⟨w.heap.size, 1, none⟩ (.slice a2 n2 c2)).setCell ⟨w.heap.size, 2, none⟩ (.slice o2 m2 d2)) (w.heap.size + 1) := by
    obtain ⟨u, v, x, hx⟩ := X2
    exact ⟨u, v, x, (set3_off (by omega) _ _ _).trans hx⟩
  have x3 : (((W2.setCell ⟨w.heap.size, 0, none⟩ (.bool s2)).setCell ⟨w.heap.size, 1, none⟩ (.slice a2 n2 c2)).setCell ⟨w.heap.size, 2, none⟩ (.slice o2 m2 d2)).heap[w.heap.size]? = some (.cells #[.bool s2, .slice a2 n2 c2, .slice o2 m2 d2] 27 (0, 0)) := by
    obtain ⟨u, v, x, hx⟩ := Y2
    exact set3_at hx _ _ _
  have cq3 := (cq2.mono (Nat.zero_le _)).ext (Ext.set3 (n := 0) Y2 (Nat.zero_le _) (.bool s2) (.slice a2 n2 c2) (.slice o2 m2 d2))
  obtain ⟨W3, hW3⟩ : ∃ W3, W3 = (((W2.setCell ⟨w.heap.size, 0, none⟩ (.bool s2)).setCell ⟨w.heap.size, 1, none⟩ (.slice a2 n2 c2)).setCell ⟨w.heap.size, 2, none⟩ (.slice o2 m2 d2)) := ⟨_, rfl⟩
  rw [← hW3] at hE X3 x3 cq3
  go_upto_region 2 with fail
  rw [← hW3]
  clear hW3 y0 y1 y2 t0 t1 t2 Y2 X2 cq2 b2 e0 e1 e2 hBX h1
  obtain ⟨k0, k1, k2, _⟩ := at_block x3
  obtain ⟨hs2, hN, hn2, fN, ⟨D, hD, hdD⟩, sN, sD⟩ := cq3.parts
  have hn2p : 0 < n2 := by rw [hn2]; exact dig_length_pos (rn_pos HQ0.out)
  have hn2f : ((n2 : Int) == 0) = false := beq_eq_false_iff_ne.2 (by omega)
  have HDD := Lib.hid hdD
  obtain ⟨bn, hbn⟩ : ∃ b, bl (rn q) = b := ⟨_, rfl⟩
  obtain ⟨bd, hbd⟩ : ∃ b, bl q.den = b := ⟨_, rfl⟩
  have hbn2 : bn ≤ 64 := by rw [← hbn]; exact bits_of sN
  have hbd2 : bd ≤ 64 := by rw [← hbd]; exact bits_of sD
  have HBN := Lib.hid hbn
  have HBD := Lib.hid hbd
  obtain ⟨sz, hsz⟩ : ∃ z, z = max bn bd := ⟨_, rfl⟩
  have hmax : max (bn : Int) (bd : Int) = (sz : Int) := by omega
  have hsz2 : sz ≤ 64 := by omega
  have hsb : sz = max (bl (rn q)) (bl q.den) := by rw [HBN.out, HBD.out]; exact hsz
  have h11 : sz = 1 := by rw [hsb]; exact HS22.out
  have hst : ((sz : Int) == 1) = true := by rw [beq_iff_eq]; omega
  have BM : Hid (∀ w', Below W3.heap.size W3 w' → Num w' a2 n2 c2 (rn q) ∧ Num w' o2 m2 d2 D) := fun w' hb => ⟨hN.below hb, hD.below hb⟩
  have K : Hid (∀ w', Below W3.heap.size W3 w' → w'.cell? ⟨w.heap.size, 0, none⟩ = some (.bool s2) ∧ w'.cell? ⟨w.heap.size, 1, none⟩ = some (.slice a2 n2 c2) ∧ w'.cell? ⟨w.heap.size, 2, none⟩ = some (.slice o2 m2 d2) ∧ Below W3.heap.size W3 w') := by
    intro w' hb
    obtain ⟨a, b, c, _⟩ := at_block (carry x3 hb)
    exact ⟨a, b, c, hb⟩
  have HX3 := Lib.hid X3
  have SDD := Lib.hid sD
  have hone : rn q = 1 ∧ q.den = 1 := by
    have e1 := bl_pos (rn_pos HQ0.out)
    have e2 := bl_pos (den_pos q)
    exact ⟨bl_one.1 (by have := HS22.out; omega), bl_one.1 (by have := HS22.out; omega)⟩
  have HONE := Lib.hid hone
  obtain ⟨mo, hmo⟩ : ∃ mo, i.tmod 2 = mo := ⟨_, rfl⟩
  obtain ⟨od, hod⟩ : ∃ od, od = odd j := ⟨_, rfl⟩
  have hmb : -1 ≤ mo ∧ mo ≤ 1 := by
    rw [← hmo]
    have := Int.tmod_lt_of_pos i (show (0 : Int) < 2 by omega)
    have := tmod2_lo i
    omega
  have hmd : (mo != 0) = od := by rw [hod, ← hmo]; exact tmod_odd HI.out
  have hmw : IntKind.i64.wrap mo = mo := IntWalk.i64_in _ (by omega)
  have HOD := Lib.hid hod
  have HS2 := Lib.hid hs2
  clear hod hmb hone hn2 hdD hbn hbd hsz hsb h11 hs2 hN hD fN sN sD cq3 X3 x3
  go_upto_region 6 with fail
  go_region_held3 (fun w' => w'.cell? ⟨w.heap.size, 0, none⟩ = some (.bool s2) ∧ w'.cell? ⟨w.heap.size, 1, none⟩ = some (.slice a2 n2 c2) ∧ w'.cell? ⟨w.heap.size, 2, none⟩ = some (.slice o2 m2 d2) ∧ Below W3.heap.size W3 w')
    (first | exact K.out _ (Below.refl _ _).drew | exact K.out _ (by assumption) | exact K.out _ (keepB v5 (by assumption) (Nat.le_refl _)))
    (first
      | (go_at_call_of 30 (Value.slice a2 n2 c2); go_split_ands; refine (rBits_num (BM.out _ (by assumption)).1).mono ?_; rintro e w' ⟨rfl, rfl⟩; rw [HBN.out])
      | (go_at_call 31; go_split_ands; refine (rden_num s2 a2 o2 n2 c2 m2 d2 D _ (BM.out _ (by assumption)).2).mono ?_; rintro e V5 ⟨a5, c5, rfl, f5, v5⟩; rw [HDD.out] at f5 ⊢; have n5 := Num.of_fr f5 (show Sm q.den 2 from SDD.out))
      | (go_at_call 30; go_split_ands; refine (rBits_num n5).mono ?_; rintro e w' ⟨rfl, rfl⟩; rw [HBD.out]; have BV : Below W3.heap.size W3 V5 := by assumption))
  have X5 := HX3.out.below BV
  obtain ⟨u0, u1, u2, hx5⟩ := X5
  obtain ⟨q0, q1, q2, z0, z1, z2⟩ := at_block hx5
  have hlt5 : w.heap.size + 1 < V5.heap.size := (Array.getElem?_eq_some_iff.1 hx5).1
  have hEE := hE.trans (BV.mono hE.size)
  obtain ⟨e0, e1, e2, _⟩ := K.out _ BV
  have hpe : powE q j ng = rq (s2 && od) 1 1 := by
    unfold powE
    rw [HONE.out.1, HONE.out.2, HOD.out, HS2.out]
    cases ng <;> simp
  have HPE := Lib.hid hpe
  have HX5 := Lib.hid hx5
  have fin : ∀ nb : Bool, powE q j ng = rq nb 1 1 → Hid (MakesE (powE q j ng) 200 w (.returned (.tuple #[.agg #[.bool nb, .slice (some ⟨V5.heap.size, 0, none⟩) 1 1, .slice none 0 0], .int .i64 0])) ((((V5.setCell ⟨w.heap.size + 1, 0, none⟩ (.bool nb)).setCell ⟨w.heap.size + 1, 1, none⟩ (.slice (some ⟨V5.heap.size, 0, none⟩) 1 1)).setCell ⟨w.heap.size + 1, 2, none⟩ (.slice none 0 0)).alloc (.cells #[.int .u32 1] 54))) := by
    intro nb e
    have h3 := below3 hEE (Nat.le_succ w.heap.size) (.bool nb) (.slice (some ⟨V5.heap.size, 0, none⟩) 1 1) (.slice none 0 0)
    have hc := unit_cq (((V5.setCell ⟨w.heap.size + 1, 0, none⟩ (.bool nb)).setCell ⟨w.heap.size + 1, 1, none⟩ (.slice (some ⟨V5.heap.size, 0, none⟩) 1 1)).setCell ⟨w.heap.size + 1, 2, none⟩ (.slice none 0 0)) nb
    have hz : (((V5.setCell ⟨w.heap.size + 1, 0, none⟩ (.bool nb)).setCell ⟨w.heap.size + 1, 1, none⟩ (.slice (some ⟨V5.heap.size, 0, none⟩) 1 1)).setCell ⟨w.heap.size + 1, 2, none⟩ (.slice none 0 0)).heap.size = V5.heap.size := by simp
    rw [hz] at hc
    rw [← e] at hc
    exact ⟨nb, _, _, _, _, _, _, rfl, hc.mono (by have := hEE.size; omega), h3.trans ((below_new _ _).mono h3.size)⟩
  have cells : ∀ nb : Bool, Hid (((((V5.setCell ⟨w.heap.size + 1, 0, none⟩ (.bool nb)).setCell ⟨w.heap.size + 1, 1, none⟩ (.slice (some ⟨V5.heap.size, 0, none⟩) 1 1)).setCell ⟨w.heap.size + 1, 2, none⟩ (.slice none 0 0)).alloc (.cells #[.int .u32 1] 54)).heap[w.heap.size + 1]? = some (.cells #[.bool nb, .slice (some ⟨V5.heap.size, 0, none⟩) 1 1, .slice none 0 0] 27 (0, 0))) := fun nb => carry (set3_at HX5.out _ _ _) (below_new _ _)
  have HF := Lib.hid fin
  have HCL := Lib.hid cells
  clear fin cells hpe hx5
  cases s2
  · have F := HF.out false HPE.out
    go_wp2_with fail
    obtain ⟨y0, y1, y2, _⟩ := at_block (HCL.out false).out
    refine bodyPost_ret (v := .tuple #[.agg #[.bool false, .slice (some ⟨V5.heap.size, 0, none⟩) 1 1, .slice none 0 0], .int .i64 0]) (by simp [results, Tryd.results13, go_sem, y0, y1, y2]) rfl ?_
    exact F.out
  · cases od
    · have F := HF.out false HPE.out
      go_wp2_with fail
      obtain ⟨y0, y1, y2, _⟩ := at_block (HCL.out false).out
      refine bodyPost_ret (v := .tuple #[.agg #[.bool false, .slice (some ⟨V5.heap.size, 0, none⟩) 1 1, .slice none 0 0], .int .i64 0]) (by simp [results, Tryd.results13, go_sem, y0, y1, y2]) rfl ?_
      exact F.out
    · have F := HF.out true HPE.out
      go_wp2_with fail
      obtain ⟨y0, y1, y2, _⟩ := at_block (HCL.out true).out
      refine bodyPost_ret (v := .tuple #[.agg #[.bool true, .slice (some ⟨V5.heap.size, 0, none⟩) 1 1, .slice none 0 0], .int .i64 0]) (by simp [results, Tryd.results13, go_sem, y0, y1, y2]) rfl ?_
      exact F.out
end Go.Proofs.YtbfmmkglfmlglaaDoor
/- Contracts: the reference's powers that fit. -/
namespace Go.Proofs.YtbfmmkglfmlglaaDoor
open Go.RowKit

set_option maxHeartbeats 20000000 in
set_option maxRecDepth 100000 in
theorem rPower_fit (s : Bool) (ao bo : Option Addr) (n ca m cb j : Nat) (ng : Bool) (i : Int) (q : Rat) (w : World) (h : RQ w s ao n ca bo m cb q 2) (hq0 : q ≠ 0) (hjp : ng = true → 0 < j) (hj2 : j ≤ 65536) (hi : i = if ng then -(j : Int) else (j : Int)) (hi2 : i ≤ 9223372036854775807) (hs2 : 2 ≤ max (bl (rn q)) (bl q.den)) (hbig : j ≤ 131072 / max (bl (rn q)) (bl q.den)) :
    Calls Tryd.prog 13 #[.agg #[.bool s, .slice ao n ca, .slice bo m cb], .int .i64 i] w (MakesE (powE q j ng) 5000 w) := by
  obtain ⟨W1, hW1, hsz, B0, X0, K0⟩ := boxes1 w s ao n ca bo m cb
  have h1 := h.below B0
  have hib : -9223372036854775808 ≤ i ∧ i ≤ 9223372036854775807 := by refine ⟨?_, hi2⟩; rw [hi]; split <;> omega
  obtain ⟨hib1, hib2⟩ := hib
  have hb1 : Below (w.heap.size + 1) W1 W1 := Below.refl _ _
  obtain ⟨e0, e1, e2, _⟩ := K0.out W1 hb1 X0
  have hBX : Box3 W1 w.heap.size := by
    rw [hW1]
    exact ⟨_, _, _, (Below.heap_alloc _ _ _ (by simp)).trans (heap_alloc_new w _)⟩
  have HQ0 := Lib.hid hq0
  have HI := Lib.hid hi
  have HBIG := Lib.hid hbig
  have HS22 := Lib.hid hs2
  clear h hsz hq0 hb1 hi hi2 hbig hs2
  go_enter Tryd.func13, Tryd.ntmps13
  go_wp2_with fail
  rw [← hW1]
  clear hW1
  refine (rNormalize_q s ao bo n ca m cb 2 q _ h1).mono ?_; rintro e W2 ⟨s2, a2, n2, c2, o2, m2, d2, rfl, cq2, b2⟩
  have Y2 := hBX.below b2
  have X2 := X0.below b2
  obtain ⟨v0, v1, v2, y0, y1, y2, t0, t1, t2⟩ := Y2.facts
  have hE := below3 (B := w.heap.size) (B0.trans (b2.mono B0.size)) (Nat.le_refl _) (.bool s2) (.slice a2 n2 c2) (.slice o2 m2 d2)
  have X3 : Box3 (((W2.setCell ⟨w.heap.size, 0, none⟩ (.bool s2)).setCell ⟨w.heap.size, 1, none⟩ (.slice a2 n2 c2)).setCell ⟨w.heap.size, 2, none⟩ (.slice o2 m2 d2)) (w.heap.size + 1) := by
    obtain ⟨u, v, x, hx⟩ := X2
    exact ⟨u, v, x, (set3_off (by omega) _ _ _).trans hx⟩
  have x3 : (((W2.setCell ⟨w.heap.size, 0, none⟩ (.bool s2)).setCell ⟨w.heap.size, 1, none⟩ (.slice a2 n2 c2)).setCell ⟨w.heap.size, 2, none⟩ (.slice o2 m2 d2)).heap[w.heap.size]? = some (.cells #[.bool s2, .slice a2 n2 c2, .slice o2 m2 d2] 27 (0, 0)) := by
    obtain ⟨u, v, x, hx⟩ := Y2
    exact set3_at hx _ _ _
  have cq3 := (cq2.mono (Nat.zero_le _)).ext (Ext.set3 (n := 0) Y2 (Nat.zero_le _) (.bool s2) (.slice a2 n2 c2) (.slice o2 m2 d2))
  obtain ⟨W3, hW3⟩ : ∃ W3, W3 = (((W2.setCell ⟨w.heap.size, 0, none⟩ (.bool s2)).setCell ⟨w.heap.size, 1, none⟩ (.slice a2 n2 c2)).setCell ⟨w.heap.size, 2, none⟩ (.slice o2 m2 d2)) := ⟨_, rfl⟩
  rw [← hW3] at hE X3 x3 cq3
  go_upto_region 2 with fail
  rw [← hW3]
  clear hW3 y0 y1 y2 t0 t1 t2 Y2 X2 cq2 b2 e0 e1 e2 hBX h1
  obtain ⟨k0, k1, k2, _⟩ := at_block x3
  obtain ⟨hs2, hN, hn2, fN, ⟨D, hD, hdD⟩, sN, sD⟩ := cq3.parts
  have hn2p : 0 < n2 := by rw [hn2]; exact dig_length_pos (rn_pos HQ0.out)
  have hn2f : ((n2 : Int) == 0) = false := beq_eq_false_iff_ne.2 (by omega)
  have HDD := Lib.hid hdD
  obtain ⟨bn, hbn⟩ : ∃ b, bl (rn q) = b := ⟨_, rfl⟩
  obtain ⟨bd, hbd⟩ : ∃ b, bl q.den = b := ⟨_, rfl⟩
  have hbn2 : bn ≤ 64 := by rw [← hbn]; exact bits_of sN
  have hbd2 : bd ≤ 64 := by rw [← hbd]; exact bits_of sD
  have HBN := Lib.hid hbn
  have HBD := Lib.hid hbd
  obtain ⟨sz, hsz⟩ : ∃ z, z = max bn bd := ⟨_, rfl⟩
  have hmax : max (bn : Int) (bd : Int) = (sz : Int) := by omega
  have hsz2 : sz ≤ 64 := by omega
  have hsb : sz = max (bl (rn q)) (bl q.den) := by rw [HBN.out, HBD.out]; exact hsz
  have h22 : 2 ≤ sz := by rw [hsb]; exact HS22.out
  have hsz1 : 1 ≤ sz := by omega
  have hst : ((sz : Int) == 1) = false := by rw [beq_eq_false_iff_ne]; omega
  obtain ⟨Q, hQ⟩ : ∃ Q, Q = 131072 / sz := ⟨_, rfl⟩
  have hq : (131072 : Int) / (sz : Int) = (Q : Int) := by rw [hQ]; exact (Int.natCast_ediv 131072 sz).symm
  have hqb : Q ≤ 131072 := by rw [hQ]; exact Nat.div_le_self _ _
  have hqj : j ≤ Q := by rw [hQ, hsb]; exact HBIG.out
  have hqt : Int.tdiv 131072 (sz : Int) = (Q : Int) := by rw [Int.tdiv_eq_ediv_of_nonneg (by omega)]; exact hq
  have hqw : IntKind.i64.wrap (Q : Int) = (Q : Int) := IntWalk.i64_in _ (by omega)
  have hqn : IntKind.i64.wrap (-(Q : Int)) = -(Q : Int) := IntWalk.i64_in _ (by omega)
  have hzz : ((sz : Int) == 0) = false := by rw [beq_eq_false_iff_ne]; omega
  have BM : Hid (∀ w', Below W3.heap.size W3 w' → Num w' a2 n2 c2 (rn q) ∧ Num w' o2 m2 d2 D) := fun w' hb => ⟨hN.below hb, hD.below hb⟩
  have K : Hid (∀ w', Below W3.heap.size W3 w' → w'.cell? ⟨w.heap.size, 0, none⟩ = some (.bool s2) ∧ w'.cell? ⟨w.heap.size, 1, none⟩ = some (.slice a2 n2 c2) ∧ w'.cell? ⟨w.heap.size, 2, none⟩ = some (.slice o2 m2 d2) ∧ Below W3.heap.size W3 w') := by
    intro w' hb
    obtain ⟨a, b, c, _⟩ := at_block (carry x3 hb)
    exact ⟨a, b, c, hb⟩
  have HX3 := Lib.hid X3
  have SDD := Lib.hid sD
  obtain ⟨mo, hmo⟩ : ∃ mo, i.tmod 2 = mo := ⟨_, rfl⟩
  obtain ⟨od, hod⟩ : ∃ od, od = odd j := ⟨_, rfl⟩
  have hmb : -1 ≤ mo ∧ mo ≤ 1 := by
    rw [← hmo]
    have := Int.tmod_lt_of_pos i (show (0 : Int) < 2 by omega)
    have := tmod2_lo i
    omega
  have hmd : (mo != 0) = od := by rw [hod, ← hmo]; exact tmod_odd HI.out
  have hmw : IntKind.i64.wrap mo = mo := IntWalk.i64_in _ (by omega)
  have hj5 : j ≤ 65536 := by
    have e1 : Q * sz ≤ 131072 := by rw [hQ]; exact Nat.div_mul_le_self _ _
    have e2 := Nat.mul_le_mul_left Q h22
    omega
  have hfit1 : bl (rn q) * j ≤ 131072 := by
    have e1 : Q * sz ≤ 131072 := by rw [hQ]; exact Nat.div_mul_le_self _ _
    have e2 : bl (rn q) ≤ sz := by rw [hsb]; exact Nat.le_max_left _ _
    exact Nat.le_trans (Nat.le_trans (Nat.mul_le_mul e2 hqj) (Nat.le_of_eq (Nat.mul_comm _ _))) e1
  have hfit2 : bl q.den * j ≤ 131072 := by
    have e1 : Q * sz ≤ 131072 := by rw [hQ]; exact Nat.div_mul_le_self _ _
    have e2 : bl q.den ≤ sz := by rw [hsb]; exact Nat.le_max_right _ _
    exact Nat.le_trans (Nat.le_trans (Nat.mul_le_mul e2 hqj) (Nat.le_of_eq (Nat.mul_comm _ _))) e1
  have P1 := Lib.hid (pow_sm5 hfit1)
  have P2 := Lib.hid (pow_sm5 hfit2)
  have SNN := Lib.hid sN
  have HJP := Lib.hid hjp
  have HOD := Lib.hid hod
  have HS2 := Lib.hid hs2
  clear hjp hod hmb hfit1 hfit2 hn2 hdD hbn hbd hsz hsb h22 hQ hs2 hN hD fN sN sD cq3 X3 x3
  go_upto_region 6 with fail
  go_region_held3 (fun w' => w'.cell? ⟨w.heap.size, 0, none⟩ = some (.bool s2) ∧ w'.cell? ⟨w.heap.size, 1, none⟩ = some (.slice a2 n2 c2) ∧ w'.cell? ⟨w.heap.size, 2, none⟩ = some (.slice o2 m2 d2) ∧ Below W3.heap.size W3 w')
    (first | exact K.out _ (Below.refl _ _).drew | exact K.out _ (by assumption) | exact K.out _ (keepB v5 (by assumption) (Nat.le_refl _)))
    (first
      | (go_at_call_of 30 (Value.slice a2 n2 c2); go_split_ands; refine (rBits_num (BM.out _ (by assumption)).1).mono ?_; rintro e w' ⟨rfl, rfl⟩; rw [HBN.out])
      | (go_at_call 31; go_split_ands; refine (rden_num s2 a2 o2 n2 c2 m2 d2 D _ (BM.out _ (by assumption)).2).mono ?_; rintro e V5 ⟨a5, c5, rfl, f5, v5⟩; rw [HDD.out] at f5 ⊢; have n5 := Num.of_fr f5 (show Sm q.den 2 from SDD.out))
      | (go_at_call 30; go_split_ands; refine (rBits_num n5).mono ?_; rintro e w' ⟨rfl, rfl⟩; rw [HBD.out]; have BV : Below W3.heap.size W3 V5 := by assumption))
  have X5 := HX3.out.below BV
  have hEE := hE.trans (BV.mono hE.size)
  obtain ⟨e0, e1, e2, _⟩ := K.out _ BV
  have hlt5 := X5.lt
  have hW3V : W3.heap.size ≤ V5.heap.size := BV.size
  have hgt : decide ((Q : Int) < i) = false := decide_eq_false (by rw [HI.out]; split <;> omega)
  have hlt : decide (i < -(Q : Int)) = false := decide_eq_false (by rw [HI.out]; split <;> omega)
  obtain ⟨nb, hnb⟩ : ∃ nb, nb = (s2 && od) := ⟨_, rfl⟩
  have HNB := Lib.hid hnb
  obtain ⟨g7, hg7⟩ : ∃ g, g = V5.heap.size := ⟨_, rfl⟩
  have BW := below_new V5 (.cells #[.bool nb, .slice none 0 0, .slice none 0 0] 27)
  have y7 := heap_alloc_new V5 (.cells #[.bool nb, .slice none 0 0, .slice none 0 0] 27)
  have x7 : ∀ w', Below W3.heap.size W3 w' → w'.cell? ⟨w.heap.size, 0, none⟩ = some (.bool s2) ∧ w'.cell? ⟨w.heap.size, 1, none⟩ = some (.slice a2 n2 c2) ∧ w'.cell? ⟨w.heap.size, 2, none⟩ = some (.slice o2 m2 d2) := fun w' hb => by
    obtain ⟨a, b, c, _⟩ := K.out _ hb
    exact ⟨a, b, c⟩
  have K7 := Lib.hid x7
  obtain ⟨W7, hW7⟩ : ∃ W, W = V5.alloc (.cells #[.bool nb, .slice none 0 0, .slice none 0 0] 27) := ⟨_, rfl⟩
  have B7 : Below W3.heap.size W3 W7 := by rw [hW7]; exact BV.trans (BW.mono hW3V)
  have E7 : Below w.heap.size w W7 := by rw [hW7]; exact hEE.trans (BW.mono hEE.size)
  have X7 : Box3 W7 (w.heap.size + 1) := by rw [hW7]; exact X5.below BW
  rw [← hW7, ← hg7] at y7
  have hg3 : W3.heap.size ≤ g7 := by rw [hg7]; exact hW3V
  have hgw : w.heap.size + 1 < g7 := by rw [hg7]; exact hlt5
  have hg7l : g7 < W7.heap.size := (Array.getElem?_eq_some_iff.1 y7).1
  go_upto_region 11 with fail
  go_cut [7] from 8 to 88 (fun v7 wx => v7 = .pointer (some ⟨g7, 0, none⟩) ∧ wx = W7)
  case first =>
    cases s2
    · obtain rfl : nb = false := hnb
      go_wp2_with fail
      go_meet
      exact ⟨by rw [hg7], hW7.symm⟩
    · cases od
      · obtain rfl : nb = false := hnb
        go_wp2_with fail
        go_meet
        exact ⟨by rw [hg7], hW7.symm⟩
      · obtain rfl : nb = true := hnb
        go_wp2_with fail
        go_meet
        exact ⟨by rw [hg7], hW7.symm⟩
  case rest =>
    obtain ⟨rfl, hwc⟩ := hcut
    rw [hwc]
    clear hwc
    have HY7 := Lib.hid y7
    have N7 : Hid (∀ w', Below g7 W7 w' → Num w' a2 n2 c2 (rn q) ∧ Num w' o2 m2 d2 D) := fun w' hb => BM.out _ (B7.trans (hb.mono hg3))
    have K8 : Hid (∀ w', Below g7 W7 w' → NBx w' g7 nb → w'.cell? ⟨w.heap.size, 0, none⟩ = some (.bool s2) ∧ w'.cell? ⟨w.heap.size, 1, none⟩ = some (.slice a2 n2 c2) ∧ w'.cell? ⟨w.heap.size, 2, none⟩ = some (.slice o2 m2 d2) ∧ NBx w' g7 nb ∧ Below g7 W7 w') := fun w' hb hn => by
      obtain ⟨a, b, c⟩ := K7.out _ (B7.trans (hb.mono hg3))
      exact ⟨a, b, c, hn, hb⟩
    have N0 : NBx W7 g7 nb := ⟨_, _, y7⟩
    have SR : ∀ {A B : Nat}, Sm A 5000 → Sm B 2 → Sm (A + B + 1) 5001 := fun {A B} h1 h2 => by
      refine ⟨?_, by omega⟩
      have e1 := h1.1
      have e2 := Nat.lt_of_lt_of_le h2.1 (pw_mono (show 2 ≤ 5000 by omega))
      obtain ⟨p, hp⟩ : ∃ p, p = pw 5000 := ⟨_, rfl⟩
      rw [show (5001 : Nat) = 5000 + 1 by rfl, pw_succ, ← hp]
      rw [← hp] at e1 e2
      omega
    obtain ⟨A, hA⟩ : ∃ A, A = rn q ^ j := ⟨_, rfl⟩
    obtain ⟨C, hC⟩ : ∃ C, C = q.den ^ j := ⟨_, rfl⟩
    have hgcd : Nat.gcd A C = 1 := by rw [hA, hC]; exact copr_pow j
    have hA0 : 0 < A := by rw [hA]; exact Nat.pow_pos (rn_pos HQ0.out)
    have hC0 : 0 < C := by rw [hC]; exact Nat.pow_pos (den_pos q)
    have sA : Sm A 5000 := by rw [hA]; exact P1.out
    have sC : Sm C 5000 := by rw [hC]; exact P2.out
    have HR1 : Hid (∀ w' (z : Int), z = (j : Int) → Num w' a2 n2 c2 (rn q) → Calls Tryd.prog 32 #[.slice a2 n2 c2, .int .i64 z] w' (Makes A w')) := fun w' z hz h => raise_z z hz h (by omega) (by rw [← hA]; exact SR sA SNN.out) hA.symm
    have HR2 : Hid (∀ w' (z : Int) a n c, z = (j : Int) → Num w' a n c q.den → Calls Tryd.prog 32 #[.slice a n c, .int .i64 z] w' (Makes C w')) := fun w' z a n c hz h => raise_z z hz h (by omega) (by rw [← hC]; exact SR sC SDD.out) hC.symm
    have HPE : Hid (powE q j ng = rq nb (if ng then C else A) (if ng then A else C)) := by unfold Hid powE; rw [HNB.out, HOD.out, HS2.out, hA, hC]
    have HA := Lib.hid (And.intro hA0 (And.intro hC0 (And.intro hgcd (And.intro sA sC))))
    have HG7 := Lib.hid hg7
    clear x7 e0 e1 e2 hnb y7 hW7 hg7 BW hA hC hgcd hA0 hC0 sA sC SR
    cases ng
    · have hiz : i = (j : Int) := by have := HI.out; simp at this; omega
      have hlt0 : decide (i < 0) = false := decide_eq_false (by omega)
      have HZ := Lib.hid hiz
      clear hiz
      go_wp2_with fail
      go_region_held3 (fun w' => w'.cell? ⟨w.heap.size, 0, none⟩ = some (.bool s2) ∧ w'.cell? ⟨w.heap.size, 1, none⟩ = some (.slice a2 n2 c2) ∧ w'.cell? ⟨w.heap.size, 2, none⟩ = some (.slice o2 m2 d2) ∧ NBx w' g7 nb ∧ Below g7 W7 w')
        (first | exact K8.out _ (Below.refl _ _).drew N0 | exact K8.out _ (keepB v6 (by assumption) (Nat.le_of_lt hg7l)) (NBx.below (by assumption) v6) | exact K8.out _ (keepB v7 (by assumption) (Nat.le_of_lt hg7l)) (NBx.below (by assumption) v7) | exact K8.out _ (keepB v8 (by assumption) (Nat.le_of_lt hg7l)) (NBx.below (by assumption) v8) | exact K8.out _ (BX.setCell (Nat.le_refl _) _) (NX.set1 _) | exact K8.out _ ((BX.setCell (Nat.le_refl _) _).setCell (Nat.le_refl _) _) ((NX.set1 _).set2 _) | exact K8.out _ (BX.setCell (Nat.le_refl _) _) (NX.set2 _) | exact K8.out _ ((BX.setCell (Nat.le_refl _) _).setCell (Nat.le_refl _) _) ((NX.set2 _).set1 _))
        (first
          | (go_at_call_of 32 (Value.slice a2 n2 c2); go_split_ands; refine (HR1.out _ _ HZ.out (N7.out _ (by assumption)).1).mono ?_; rintro e V6 ⟨a6, c6, rfl, f6, v6⟩)
          | (go_at_call 31; go_split_ands; refine (rden_num s2 a2 o2 n2 c2 m2 d2 D _ (N7.out _ (by assumption)).2).mono ?_; rintro e V7 ⟨a7, c7, rfl, f7, v7⟩; rw [HDD.out] at f7 ⊢; have n7 := Num.of_fr f7 (show Sm q.den 2 from SDD.out))
          | (go_at_call 32; go_split_ands; refine (HR2.out _ _ _ _ _ HZ.out n7).mono ?_; rintro e V8 ⟨a8, c8, rfl, f8, v8⟩; have BX : Below g7 W7 V8 := keepB v8 (by assumption) (Nat.le_of_lt hg7l); have NX : NBx V8 g7 nb := NBx.below (by assumption) v8; obtain ⟨ua, ub, r0, r1, r2, p0, p1, p2⟩ := NX.facts))
      have hbase : g7 + 1 ≤ V8.heap.size := by have := BX.size; omega
      have y9 := NX.done (.slice a6 (dig A).length c6) (.slice a8 (dig C).length c8)
      have B9 : Below g7 W7 ((V8.setCell ⟨g7, 1, none⟩ (.slice a6 (dig A).length c6)).setCell ⟨g7, 2, none⟩ (.slice a8 (dig C).length c8)) := (BX.setCell (Nat.le_refl _) _).setCell (Nat.le_refl _) _
      have X9 : Box3 ((V8.setCell ⟨g7, 1, none⟩ (.slice a6 (dig A).length c6)).setCell ⟨g7, 2, none⟩ (.slice a8 (dig C).length c8)) (w.heap.size + 1) := by
        obtain ⟨u, v, x, hx⟩ := X7
        exact ⟨u, v, x, (B9.block _ (by omega)).trans hx⟩
      have z6 : W7.heap.size ≤ V6.heap.size := v6.size
      have z7 : V6.heap.size ≤ V7.heap.size := v7.size
      have fa : Fr (g7 + 1) V8 a6 c6 (dig A) := ((f6.below v7).below v8).mono (by first | omega | (show g7 + 1 ≤ W7.heap.size; omega))
      have fb : Fr (g7 + 1) V8 a8 c8 (dig C) := (f8).mono (by first | omega | (show g7 + 1 ≤ W7.heap.size; omega))
      have ga := (fa.set_at 1 (.slice a6 (dig A).length c6)).set_at 2 (.slice a8 (dig C).length c8)
      have gb := (fb.set_at 1 (.slice a6 (dig A).length c6)).set_at 2 (.slice a8 (dig C).length c8)
      obtain ⟨W9, hW9⟩ : ∃ W, W = ((V8.setCell ⟨g7, 1, none⟩ (.slice a6 (dig A).length c6)).setCell ⟨g7, 2, none⟩ (.slice a8 (dig C).length c8)) := ⟨_, rfl⟩
      rw [← hW9] at y9 B9 X9 ga gb
      have E9 : Below w.heap.size w W9 := E7.trans (B9.mono (by omega))
      have HPQ : Hid (powE q j false = rq nb A C) := by unfold Hid; have := HPE.out; simpa using this
      have GA := Lib.hid ga
      have GB := Lib.hid gb
      have HY9 := Lib.hid y9
      have HX9 := Lib.hid X9
      go_upto_region 15 with fail
      rw [← hW9]
      clear hW9 fa fb ga gb r0 r1 r2 p0 p1 p2 NX
      obtain ⟨k0, k1, k2, l0, l1, l2⟩ := at_block y9
      clear y9 X9
      go_wp2_with fail
      refine (rBits_num (Num.of_fr GB.out HA.out.2.2.2.2)).mono ?_; rintro e w' ⟨rfl, rfl⟩
      by_cases hd1 : C = 1
      · rw [bl_one.2 hd1]
        have HD1 := Lib.hid hd1
        clear hd1
        have yt : (W9.setCell ⟨g7, 2, none⟩ (.slice none 0 0)).heap[g7]? = some (.cells #[.bool nb, .slice a6 (dig A).length c6, .slice none 0 0] 27 (0, 0)) := by
          have := HY9.out
          simp [World.setCell, Array.getElem?_modify, this]
        have xt : Box3 (W9.setCell ⟨g7, 2, none⟩ (.slice none 0 0)) (w.heap.size + 1) := by
          obtain ⟨u, v, x, hx⟩ := HX9.out
          exact ⟨u, v, x, (Below.heap_setCell _ _ _ _ (fun e => by have e' : g7 = w.heap.size + 1 := (by first | exact e | exact e.symm); omega)).trans hx⟩
        have et : Below w.heap.size w (W9.setCell ⟨g7, 2, none⟩ (.slice none 0 0)) := E9.setCell (by show w.heap.size ≤ g7; omega) _
        have gt := GA.out.set_at 2 (.slice none 0 0)
        obtain ⟨WT, hWT⟩ : ∃ W, W = W9.setCell ⟨g7, 2, none⟩ (.slice none 0 0) := ⟨_, rfl⟩
        rw [← hWT] at yt xt et gt
        have CQT : Hid (CQ V5.heap.size WT nb a6 (dig A).length c6 none 0 0 (powE q j false) 5000) := by
          unfold Hid
          rw [HPQ.out]
          exact (cq_copr (B := g7 + 1) HA.out.2.2.1 HA.out.1 HA.out.2.1 rfl gt (by rw [HD1.out]; rfl) (by rw [HD1.out]; exact Fr.nil _ _) HA.out.2.2.2.1 HA.out.2.2.2.2).mono (by rw [← HG7.out]; omega)
        go_upto_region 17 with fail
        rw [← hWT]
        clear hWT k0 k1 k2 l0 l1 l2 gt
        obtain ⟨k0, k1, k2, _⟩ := at_block yt
        obtain ⟨u0, u1, u2, q0, q1, q2, z0, z1, z2⟩ := xt.facts
        clear yt xt
        go_wp2_with fail
        refine bodyPost_ret (v := .tuple #[.agg #[.bool nb, .slice a6 (dig A).length c6, .slice none 0 0], .int .i64 0]) (by simp [results, Tryd.results13, go_sem, q0, q1, q2]) rfl ?_
        exact MakesE.of (MakesQ.lift CQT.out rfl hlt5 (Nat.le_succ _) et _ _ _)
      · have hb1 : ((bl C : Int) == 1) = false := beq_eq_false_iff_ne.2 (fun e => hd1 (bl_one.1 (by omega)))
        have CQT : Hid (CQ V5.heap.size W9 nb a6 (dig A).length c6 a8 (dig C).length c8 (powE q j false) 5000) := by
          unfold Hid
          rw [HPQ.out]
          exact (cq_copr (B := g7 + 1) HA.out.2.2.1 HA.out.1 HA.out.2.1 rfl GA.out (by rw [dd_of hd1]) (by rw [dd_of hd1]; exact GB.out) HA.out.2.2.2.1 HA.out.2.2.2.2).mono (by rw [← HG7.out]; omega)
        clear hd1
        obtain ⟨bb, hbb⟩ : ∃ b, b = bl C := ⟨_, rfl⟩
        rw [← hbb] at hb1 ⊢
        clear hbb
        obtain ⟨u0, u1, u2, q0, q1, q2, z0, z1, z2⟩ := HX9.out.facts
        go_wp2_with fail
        refine bodyPost_ret (v := .tuple #[.agg #[.bool nb, .slice a6 (dig A).length c6, .slice a8 (dig C).length c8], .int .i64 0]) (by simp [results, Tryd.results13, go_sem, q0, q1, q2]) rfl ?_
        exact MakesE.of (MakesQ.lift CQT.out rfl hlt5 (Nat.le_succ _) E9 _ _ _)
    · have hiz : -i = (j : Int) := by have := HI.out; simp at this; omega
      have hlt0 : decide (i < 0) = true := decide_eq_true (by have := HI.out; have := HJP.out rfl; simp at *; omega)
      have hwn : IntKind.i64.wrap (-i) = -i := IntWalk.i64_in _ (by omega)
      have HZ := Lib.hid hiz
      clear hiz
      go_wp2_with fail
      go_region_held3 (fun w' => w'.cell? ⟨w.heap.size, 0, none⟩ = some (.bool s2) ∧ w'.cell? ⟨w.heap.size, 1, none⟩ = some (.slice a2 n2 c2) ∧ w'.cell? ⟨w.heap.size, 2, none⟩ = some (.slice o2 m2 d2) ∧ NBx w' g7 nb ∧ Below g7 W7 w')
        (first | exact K8.out _ (Below.refl _ _).drew N0 | exact K8.out _ (keepB v6 (by assumption) (Nat.le_of_lt hg7l)) (NBx.below (by assumption) v6) | exact K8.out _ (keepB v7 (by assumption) (Nat.le_of_lt hg7l)) (NBx.below (by assumption) v7) | exact K8.out _ (keepB v8 (by assumption) (Nat.le_of_lt hg7l)) (NBx.below (by assumption) v8) | exact K8.out _ (BX.setCell (Nat.le_refl _) _) (NX.set1 _) | exact K8.out _ ((BX.setCell (Nat.le_refl _) _).setCell (Nat.le_refl _) _) ((NX.set1 _).set2 _) | exact K8.out _ (BX.setCell (Nat.le_refl _) _) (NX.set2 _) | exact K8.out _ ((BX.setCell (Nat.le_refl _) _).setCell (Nat.le_refl _) _) ((NX.set2 _).set1 _))
        (first
          | (go_at_call 31; go_split_ands; refine (rden_num s2 a2 o2 n2 c2 m2 d2 D _ (N7.out _ (by assumption)).2).mono ?_; rintro e V6 ⟨a6, c6, rfl, f6, v6⟩; rw [HDD.out] at f6 ⊢; have n6 := Num.of_fr f6 (show Sm q.den 2 from SDD.out))
          | (go_at_call_of 32 (Value.slice a2 n2 c2); go_split_ands; refine (HR1.out _ _ HZ.out (N7.out _ (by assumption)).1).mono ?_; rintro e V8 ⟨a8, c8, rfl, f8, v8⟩; have BX : Below g7 W7 V8 := keepB v8 (by assumption) (Nat.le_of_lt hg7l); have NX : NBx V8 g7 nb := NBx.below (by assumption) v8; obtain ⟨ua, ub, r0, r1, r2, p0, p1, p2⟩ := NX.facts)
          | (go_at_call 32; go_split_ands; refine (HR2.out _ _ _ _ _ HZ.out n6).mono ?_; rintro e V7 ⟨a7, c7, rfl, f7, v7⟩))
      have hbase : g7 + 1 ≤ V8.heap.size := by have := BX.size; omega
      have y9 := NX.done (.slice a7 (dig C).length c7) (.slice a8 (dig A).length c8)
      have B9 : Below g7 W7 ((V8.setCell ⟨g7, 1, none⟩ (.slice a7 (dig C).length c7)).setCell ⟨g7, 2, none⟩ (.slice a8 (dig A).length c8)) := (BX.setCell (Nat.le_refl _) _).setCell (Nat.le_refl _) _
      have X9 : Box3 ((V8.setCell ⟨g7, 1, none⟩ (.slice a7 (dig C).length c7)).setCell ⟨g7, 2, none⟩ (.slice a8 (dig A).length c8)) (w.heap.size + 1) := by
        obtain ⟨u, v, x, hx⟩ := X7
        exact ⟨u, v, x, (B9.block _ (by omega)).trans hx⟩
      have z6 : W7.heap.size ≤ V6.heap.size := v6.size
      have z7 : V6.heap.size ≤ V7.heap.size := v7.size
      have fa : Fr (g7 + 1) V8 a7 c7 (dig C) := (f7.below v8).mono (by first | omega | (show g7 + 1 ≤ W7.heap.size; omega))
      have fb : Fr (g7 + 1) V8 a8 c8 (dig A) := (f8).mono (by first | omega | (show g7 + 1 ≤ W7.heap.size; omega))
      have ga := (fa.set_at 1 (.slice a7 (dig C).length c7)).set_at 2 (.slice a8 (dig A).length c8)
      have gb := (fb.set_at 1 (.slice a7 (dig C).length c7)).set_at 2 (.slice a8 (dig A).length c8)
      obtain ⟨W9, hW9⟩ : ∃ W, W = ((V8.setCell ⟨g7, 1, none⟩ (.slice a7 (dig C).length c7)).setCell ⟨g7, 2, none⟩ (.slice a8 (dig A).length c8)) := ⟨_, rfl⟩
      rw [← hW9] at y9 B9 X9 ga gb
      have E9 : Below w.heap.size w W9 := E7.trans (B9.mono (by omega))
      have HPQ : Hid (powE q j true = rq nb C A) := by unfold Hid; have := HPE.out; simpa using this
      have GA := Lib.hid ga
      have GB := Lib.hid gb
      have HY9 := Lib.hid y9
      have HX9 := Lib.hid X9
      go_upto_region 15 with fail
      rw [← hW9]
      clear hW9 fa fb ga gb r0 r1 r2 p0 p1 p2 NX
      obtain ⟨k0, k1, k2, l0, l1, l2⟩ := at_block y9
      clear y9 X9
      go_wp2_with fail
      refine (rBits_num (Num.of_fr GB.out HA.out.2.2.2.1)).mono ?_; rintro e w' ⟨rfl, rfl⟩
      by_cases hd1 : A = 1
      · rw [bl_one.2 hd1]
        have HD1 := Lib.hid hd1
        clear hd1
        have yt : (W9.setCell ⟨g7, 2, none⟩ (.slice none 0 0)).heap[g7]? = some (.cells #[.bool nb, .slice a7 (dig C).length c7, .slice none 0 0] 27 (0, 0)) := by
          have := HY9.out
          simp [World.setCell, Array.getElem?_modify, this]
        have xt : Box3 (W9.setCell ⟨g7, 2, none⟩ (.slice none 0 0)) (w.heap.size + 1) := by
          obtain ⟨u, v, x, hx⟩ := HX9.out
          exact ⟨u, v, x, (Below.heap_setCell _ _ _ _ (fun e => by have e' : g7 = w.heap.size + 1 := (by first | exact e | exact e.symm); omega)).trans hx⟩
        have et : Below w.heap.size w (W9.setCell ⟨g7, 2, none⟩ (.slice none 0 0)) := E9.setCell (by show w.heap.size ≤ g7; omega) _
        have gt := GA.out.set_at 2 (.slice none 0 0)
        obtain ⟨WT, hWT⟩ : ∃ W, W = W9.setCell ⟨g7, 2, none⟩ (.slice none 0 0) := ⟨_, rfl⟩
        rw [← hWT] at yt xt et gt
        have CQT : Hid (CQ V5.heap.size WT nb a7 (dig C).length c7 none 0 0 (powE q j true) 5000) := by
          unfold Hid
          rw [HPQ.out]
          exact (cq_copr (B := g7 + 1) (by rw [Nat.gcd_comm]; exact HA.out.2.2.1) HA.out.2.1 HA.out.1 rfl gt (by rw [HD1.out]; rfl) (by rw [HD1.out]; exact Fr.nil _ _) HA.out.2.2.2.2 HA.out.2.2.2.1).mono (by rw [← HG7.out]; omega)
        go_upto_region 17 with fail
        rw [← hWT]
        clear hWT k0 k1 k2 l0 l1 l2 gt
        obtain ⟨k0, k1, k2, _⟩ := at_block yt
        obtain ⟨u0, u1, u2, q0, q1, q2, z0, z1, z2⟩ := xt.facts
        clear yt xt
        go_wp2_with fail
        refine bodyPost_ret (v := .tuple #[.agg #[.bool nb, .slice a7 (dig C).length c7, .slice none 0 0], .int .i64 0]) (by simp [results, Tryd.results13, go_sem, q0, q1, q2]) rfl ?_
        exact MakesE.of (MakesQ.lift CQT.out rfl hlt5 (Nat.le_succ _) et _ _ _)
      · have hb1 : ((bl A : Int) == 1) = false := beq_eq_false_iff_ne.2 (fun e => hd1 (bl_one.1 (by omega)))
        have CQT : Hid (CQ V5.heap.size W9 nb a7 (dig C).length c7 a8 (dig A).length c8 (powE q j true) 5000) := by
          unfold Hid
          rw [HPQ.out]
          exact (cq_copr (B := g7 + 1) (by rw [Nat.gcd_comm]; exact HA.out.2.2.1) HA.out.2.1 HA.out.1 rfl GA.out (by rw [dd_of hd1]) (by rw [dd_of hd1]; exact GB.out) HA.out.2.2.2.2 HA.out.2.2.2.1).mono (by rw [← HG7.out]; omega)
        clear hd1
        obtain ⟨bb, hbb⟩ : ∃ b, b = bl A := ⟨_, rfl⟩
        rw [← hbb] at hb1 ⊢
        clear hbb
        obtain ⟨u0, u1, u2, q0, q1, q2, z0, z1, z2⟩ := HX9.out.facts
        go_wp2_with fail
        refine bodyPost_ret (v := .tuple #[.agg #[.bool nb, .slice a7 (dig C).length c7, .slice a8 (dig A).length c8], .int .i64 0]) (by simp [results, Tryd.results13, go_sem, q0, q1, q2]) rfl ?_
        exact MakesE.of (MakesQ.lift CQT.out rfl hlt5 (Nat.le_succ _) E9 _ _ _)
end Go.Proofs.YtbfmmkglfmlglaaDoor
/- Contracts: the reference's powers whose exponent does not fit. -/
namespace Go.Proofs.YtbfmmkglfmlglaaDoor
open Go.RowKit

set_option maxHeartbeats 20000000 in
set_option maxRecDepth 100000 in
theorem rPower_big (s : Bool) (ao bo : Option Addr) (n ca m cb j : Nat) (ng : Bool) (i : Int) (q : Rat) (w : World) (h : RQ w s ao n ca bo m cb q 2) (hq0 : q ≠ 0) (hj : 0 < j) (hj2 : j ≤ 9223372036854775808) (hi : i = if ng then -(j : Int) else (j : Int)) (hi2 : i ≤ 9223372036854775807) (hs2 : 2 ≤ max (bl (rn q)) (bl q.den)) (hbig : 131072 / max (bl (rn q)) (bl q.den) < j) :
    Calls Tryd.prog 13 #[.agg #[.bool s, .slice ao n ca, .slice bo m cb], .int .i64 i] w (fun e w' => e = .returned (.tuple #[.agg #[.bool false, .slice none 0 0, .slice none 0 0], .int .i64 21]) ∧ Below w.heap.size w w') := by
  obtain ⟨W1, hW1, hsz, B0, X0, K0⟩ := boxes1 w s ao n ca bo m cb
  have h1 := h.below B0
  have hib : -9223372036854775808 ≤ i ∧ i ≤ 9223372036854775807 := by refine ⟨?_, hi2⟩; rw [hi]; split <;> omega
  obtain ⟨hib1, hib2⟩ := hib
  have hb1 : Below (w.heap.size + 1) W1 W1 := Below.refl _ _
  obtain ⟨e0, e1, e2, _⟩ := K0.out W1 hb1 X0
  have hBX : Box3 W1 w.heap.size := by
    rw [hW1]
    exact ⟨_, _, _, (Below.heap_alloc _ _ _ (by simp)).trans (heap_alloc_new w _)⟩
  have HQ0 := Lib.hid hq0
  have HI := Lib.hid hi
  have HBIG := Lib.hid hbig
  have HS22 := Lib.hid hs2
  clear h hsz hq0 hb1 hi hi2 hbig hs2
  go_enter Tryd.func13, Tryd.ntmps13
  go_wp2_with fail
  rw [← hW1]
  clear hW1
  refine (rNormalize_q s ao bo n ca m cb 2 q _ h1).mono ?_; rintro e W2 ⟨s2, a2, n2, c2, o2, m2, d2, rfl, cq2, b2⟩
  have Y2 := hBX.below b2
  have X2 := X0.below b2
  obtain ⟨v0, v1, v2, y0, y1, y2, t0, t1, t2⟩ := Y2.facts
  have hE := below3 (B := w.heap.size) (B0.trans (b2.mono B0.size)) (Nat.le_refl _) (.bool s2) (.slice a2 n2 c2) (.slice o2 m2 d2)
  have X3 : Box3 (((W2.setCell ⟨w.heap.size, 0, none⟩ (.bool s2)).setCell ⟨w.heap.size, 1, none⟩ (.slice a2 n2 c2)).setCell ⟨w.heap.size, 2, none⟩ (.slice o2 m2 d2)) (w.heap.size + 1) := by
    obtain ⟨u, v, x, hx⟩ := X2
    exact ⟨u, v, x, (set3_off (by omega) _ _ _).trans hx⟩
  have x3 : (((W2.setCell ⟨w.heap.size, 0, none⟩ (.bool s2)).setCell ⟨w.heap.size, 1, none⟩ (.slice a2 n2 c2)).setCell ⟨w.heap.size, 2, none⟩ (.slice o2 m2 d2)).heap[w.heap.size]? = some (.cells #[.bool s2, .slice a2 n2 c2, .slice o2 m2 d2] 27 (0, 0)) := by
    obtain ⟨u, v, x, hx⟩ := Y2
    exact set3_at hx _ _ _
  have cq3 := (cq2.mono (Nat.zero_le _)).ext (Ext.set3 (n := 0) Y2 (Nat.zero_le _) (.bool s2) (.slice a2 n2 c2) (.slice o2 m2 d2))
  obtain ⟨W3, hW3⟩ : ∃ W3, W3 = (((W2.setCell ⟨w.heap.size, 0, none⟩ (.bool s2)).setCell ⟨w.heap.size, 1, none⟩ (.slice a2 n2 c2)).setCell ⟨w.heap.size, 2, none⟩ (.slice o2 m2 d2)) := ⟨_, rfl⟩
  rw [← hW3] at hE X3 x3 cq3
  go_upto_region 2 with fail
  rw [← hW3]
  clear hW3 y0 y1 y2 t0 t1 t2 Y2 X2 cq2 b2 e0 e1 e2 hBX h1
  obtain ⟨k0, k1, k2, _⟩ := at_block x3
  obtain ⟨hs2, hN, hn2, fN, ⟨D, hD, hdD⟩, sN, sD⟩ := cq3.parts
  have hn2p : 0 < n2 := by rw [hn2]; exact dig_length_pos (rn_pos HQ0.out)
  have hn2f : ((n2 : Int) == 0) = false := beq_eq_false_iff_ne.2 (by omega)
  have HDD := Lib.hid hdD
  obtain ⟨bn, hbn⟩ : ∃ b, bl (rn q) = b := ⟨_, rfl⟩
  obtain ⟨bd, hbd⟩ : ∃ b, bl q.den = b := ⟨_, rfl⟩
  have hbn2 : bn ≤ 64 := by rw [← hbn]; exact bits_of sN
  have hbd2 : bd ≤ 64 := by rw [← hbd]; exact bits_of sD
  have HBN := Lib.hid hbn
  have HBD := Lib.hid hbd
  obtain ⟨sz, hsz⟩ : ∃ z, z = max bn bd := ⟨_, rfl⟩
  have hmax : max (bn : Int) (bd : Int) = (sz : Int) := by omega
  have hsz2 : sz ≤ 64 := by omega
  have hsb : sz = max (bl (rn q)) (bl q.den) := by rw [HBN.out, HBD.out]; exact hsz
  have h22 : 2 ≤ sz := by rw [hsb]; exact HS22.out
  have hsz1 : 1 ≤ sz := by omega
  have hst : ((sz : Int) == 1) = false := by rw [beq_eq_false_iff_ne]; omega
  obtain ⟨Q, hQ⟩ : ∃ Q, Q = 131072 / sz := ⟨_, rfl⟩
  have hq : (131072 : Int) / (sz : Int) = (Q : Int) := by rw [hQ]; exact (Int.natCast_ediv 131072 sz).symm
  have hqb : Q ≤ 131072 := by rw [hQ]; exact Nat.div_le_self _ _
  have hqj : Q < j := by rw [hQ, hsb]; exact HBIG.out
  have hqt : Int.tdiv 131072 (sz : Int) = (Q : Int) := by rw [Int.tdiv_eq_ediv_of_nonneg (by omega)]; exact hq
  have hqw : IntKind.i64.wrap (Q : Int) = (Q : Int) := IntWalk.i64_in _ (by omega)
  have hqn : IntKind.i64.wrap (-(Q : Int)) = -(Q : Int) := IntWalk.i64_in _ (by omega)
  have hzz : ((sz : Int) == 0) = false := by rw [beq_eq_false_iff_ne]; omega
  have BM : Hid (∀ w', Below W3.heap.size W3 w' → Num w' a2 n2 c2 (rn q) ∧ Num w' o2 m2 d2 D) := fun w' hb => ⟨hN.below hb, hD.below hb⟩
  have K : Hid (∀ w', Below W3.heap.size W3 w' → w'.cell? ⟨w.heap.size, 0, none⟩ = some (.bool s2) ∧ w'.cell? ⟨w.heap.size, 1, none⟩ = some (.slice a2 n2 c2) ∧ w'.cell? ⟨w.heap.size, 2, none⟩ = some (.slice o2 m2 d2) ∧ Below W3.heap.size W3 w') := by
    intro w' hb
    obtain ⟨a, b, c, _⟩ := at_block (carry x3 hb)
    exact ⟨a, b, c, hb⟩
  have HX3 := Lib.hid X3
  have SDD := Lib.hid sD
  clear hn2 hdD hbn hbd hsz hsb h22 hQ hs2 hN hD fN sN sD cq3 X3 x3
  go_upto_region 6 with fail
  go_region_held3 (fun w' => w'.cell? ⟨w.heap.size, 0, none⟩ = some (.bool s2) ∧ w'.cell? ⟨w.heap.size, 1, none⟩ = some (.slice a2 n2 c2) ∧ w'.cell? ⟨w.heap.size, 2, none⟩ = some (.slice o2 m2 d2) ∧ Below W3.heap.size W3 w')
    (first | exact K.out _ (Below.refl _ _).drew | exact K.out _ (by assumption) | exact K.out _ (keepB v5 (by assumption) (Nat.le_refl _)))
    (first
      | (go_at_call_of 30 (Value.slice a2 n2 c2); go_split_ands; refine (rBits_num (BM.out _ (by assumption)).1).mono ?_; rintro e w' ⟨rfl, rfl⟩; rw [HBN.out])
      | (go_at_call 31; go_split_ands; refine (rden_num s2 a2 o2 n2 c2 m2 d2 D _ (BM.out _ (by assumption)).2).mono ?_; rintro e V5 ⟨a5, c5, rfl, f5, v5⟩; rw [HDD.out] at f5 ⊢; have n5 := Num.of_fr f5 (show Sm q.den 2 from SDD.out))
      | (go_at_call 30; go_split_ands; refine (rBits_num n5).mono ?_; rintro e w' ⟨rfl, rfl⟩; rw [HBD.out]; have BV : Below W3.heap.size W3 V5 := by assumption))
  have X5 := HX3.out.below BV
  obtain ⟨u0, u1, u2, q0, q1, q2, z0, z1, z2⟩ := X5.facts
  have hEE := hE.trans (BV.mono hE.size)
  cases ng
  · have hgt : decide ((Q : Int) < i) = true := decide_eq_true (by rw [HI.out, if_neg (by simp)]; omega)
    go_wp2_with fail
    refine bodyPost_ret (v := .tuple #[.agg #[.bool false, .slice none 0 0, .slice none 0 0], .int .i64 21]) (by simp [results, Tryd.results13, go_sem, q0, q1, q2]) rfl ?_
    exact ⟨rfl, below3 hEE (Nat.le_succ _) _ _ _⟩
  · have hgt : decide ((Q : Int) < i) = false := decide_eq_false (by rw [HI.out, if_pos rfl]; omega)
    have hlt : decide (i < -(Q : Int)) = true := decide_eq_true (by rw [HI.out, if_pos rfl]; omega)
    go_wp2_with fail
    refine bodyPost_ret (v := .tuple #[.agg #[.bool false, .slice none 0 0, .slice none 0 0], .int .i64 21]) (by simp [results, Tryd.results13, go_sem, q0, q1, q2]) rfl ?_
    exact ⟨rfl, below3 hEE (Nat.le_succ _) _ _ _⟩
end Go.Proofs.YtbfmmkglfmlglaaDoor
/- Contracts: the reference's powers of 0. -/
namespace Go.Proofs.YtbfmmkglfmlglaaDoor
open Go.RowKit

set_option maxHeartbeats 20000000 in
set_option maxRecDepth 100000 in
theorem rPower_nil (s : Bool) (ao bo : Option Addr) (n ca m cb : Nat) (i : Int) (q : Rat) (w : World) (h : RQ w s ao n ca bo m cb q 2) (hq0 : q = 0) (hi : i < 0) :
    Calls Tryd.prog 13 #[.agg #[.bool s, .slice ao n ca, .slice bo m cb], .int .i64 i] w (fun e w' => e = .returned (.tuple #[.agg #[.bool false, .slice none 0 0, .slice none 0 0], .int .i64 20]) ∧ Below w.heap.size w w') := by
  obtain ⟨W1, hW1, hsz, B0, X0, K⟩ := boxes1 w s ao n ca bo m cb
  have h1 := h.below B0
  have hb1 : Below (w.heap.size + 1) W1 W1 := Below.refl _ _
  obtain ⟨e0, e1, e2, _⟩ := K.out W1 hb1 X0
  have hBX : Box3 W1 w.heap.size := by
    rw [hW1]
    exact ⟨_, _, _, (Below.heap_alloc _ _ _ (by simp)).trans (heap_alloc_new w _)⟩
  have hneg : decide (i < 0) = true := decide_eq_true hi
  have HQ0 := Lib.hid hq0
  clear h hsz hq0 hb1
  go_enter Tryd.func13, Tryd.ntmps13
  go_wp2_with fail
  rw [← hW1]
  clear hW1
  refine (rNormalize_q s ao bo n ca m cb 2 q _ h1).mono ?_; rintro e W2 ⟨s2, a2, n2, c2, o2, m2, d2, rfl, cq2, b2⟩
  have Y2 := hBX.below b2
  have X2 := X0.below b2
  have hn0 : n2 = 0 := by rw [cq2.2.1, HQ0.out]; rfl
  subst hn0
  obtain ⟨v0, v1, v2, y0, y1, y2, t0, t1, t2⟩ := Y2.facts
  have hE := below3 (B := w.heap.size) (B0.trans (b2.mono B0.size)) (Nat.le_refl _) (.bool s2) (.slice a2 0 c2) (.slice o2 m2 d2)
  have X3 : Box3 (((W2.setCell ⟨w.heap.size, 0, none⟩ (.bool s2)).setCell ⟨w.heap.size, 1, none⟩ (.slice a2 0 c2)).setCell ⟨w.heap.size, 2, none⟩ (.slice o2 m2 d2)) (w.heap.size + 1) := by
    obtain ⟨u, v, x, hx⟩ := X2
    exact ⟨u, v, x, (set3_off (by omega) _ _ _).trans hx⟩
  have x3 : (((W2.setCell ⟨w.heap.size, 0, none⟩ (.bool s2)).setCell ⟨w.heap.size, 1, none⟩ (.slice a2 0 c2)).setCell ⟨w.heap.size, 2, none⟩ (.slice o2 m2 d2)).heap[w.heap.size]? = some (.cells #[.bool s2, .slice a2 0 c2, .slice o2 m2 d2] 27 (0, 0)) := by
    obtain ⟨u, v, x, hx⟩ := Y2
    exact set3_at hx _ _ _
  obtain ⟨W3, hW3⟩ : ∃ W3, W3 = (((W2.setCell ⟨w.heap.size, 0, none⟩ (.bool s2)).setCell ⟨w.heap.size, 1, none⟩ (.slice a2 0 c2)).setCell ⟨w.heap.size, 2, none⟩ (.slice o2 m2 d2)) := ⟨_, rfl⟩
  rw [← hW3] at hE X3 x3
  go_upto_region 2 with fail
  rw [← hW3]
  clear hW3 y0 y1 y2 t0 t1 t2 Y2 X2 cq2 b2 e0 e1 e2 hBX h1
  obtain ⟨k0, k1, k2, _⟩ := at_block x3
  have hlt := X3.lt
  obtain ⟨u0, u1, u2, q0, q1, q2, z0, z1, z2⟩ := X3.facts
  go_wp2_with fail
  refine bodyPost_ret (v := .tuple #[.agg #[.bool false, .slice none 0 0, .slice none 0 0], .int .i64 20]) (by simp [results, Tryd.results13, go_sem, q0, q1, q2]) rfl ?_
  exact ⟨rfl, below3 hE (Nat.le_succ _) _ _ _⟩
set_option maxHeartbeats 20000000 in
set_option maxRecDepth 100000 in
theorem rPower_nil_up (s : Bool) (ao bo : Option Addr) (n ca m cb : Nat) (i : Int) (q : Rat) (w : World) (h : RQ w s ao n ca bo m cb q 2) (hq0 : q = 0) (hi : 0 < i) :
    Calls Tryd.prog 13 #[.agg #[.bool s, .slice ao n ca, .slice bo m cb], .int .i64 i] w (MakesE 0 2 w) := by
  obtain ⟨W1, hW1, hsz, B0, X0, K⟩ := boxes1 w s ao n ca bo m cb
  have h1 := h.below B0
  have hb1 : Below (w.heap.size + 1) W1 W1 := Below.refl _ _
  obtain ⟨e0, e1, e2, _⟩ := K.out W1 hb1 X0
  have hBX : Box3 W1 w.heap.size := by
    rw [hW1]
    exact ⟨_, _, _, (Below.heap_alloc _ _ _ (by simp)).trans (heap_alloc_new w _)⟩
  have hneg : decide (i < 0) = false := decide_eq_false (by omega)
  have hmin : min i 1 = 1 := by omega
  have FI : Hid (∀ w', Calls Tryd.prog 29 #[.int .i64 0] w' (MakesQ 0 2 w')) := fun w' => rFromInt_q 0 (by omega) (by omega) w'
  clear hi
  have HQ0 := Lib.hid hq0
  clear h hsz hq0 hb1
  go_enter Tryd.func13, Tryd.ntmps13
  go_wp2_with fail
  rw [← hW1]
  clear hW1
  refine (rNormalize_q s ao bo n ca m cb 2 q _ h1).mono ?_; rintro e W2 ⟨s2, a2, n2, c2, o2, m2, d2, rfl, cq2, b2⟩
  have Y2 := hBX.below b2
  have X2 := X0.below b2
  have hn0 : n2 = 0 := by rw [cq2.2.1, HQ0.out]; rfl
  subst hn0
  obtain ⟨v0, v1, v2, y0, y1, y2, t0, t1, t2⟩ := Y2.facts
  have hE := below3 (B := w.heap.size) (B0.trans (b2.mono B0.size)) (Nat.le_refl _) (.bool s2) (.slice a2 0 c2) (.slice o2 m2 d2)
  have X3 : Box3 (((W2.setCell ⟨w.heap.size, 0, none⟩ (.bool s2)).setCell ⟨w.heap.size, 1, none⟩ (.slice a2 0 c2)).setCell ⟨w.heap.size, 2, none⟩ (.slice o2 m2 d2)) (w.heap.size + 1) := by
    obtain ⟨u, v, x, hx⟩ := X2
    exact ⟨u, v, x, (set3_off (by omega) _ _ _).trans hx⟩
  have x3 : (((W2.setCell ⟨w.heap.size, 0, none⟩ (.bool s2)).setCell ⟨w.heap.size, 1, none⟩ (.slice a2 0 c2)).setCell ⟨w.heap.size, 2, none⟩ (.slice o2 m2 d2)).heap[w.heap.size]? = some (.cells #[.bool s2, .slice a2 0 c2, .slice o2 m2 d2] 27 (0, 0)) := by
    obtain ⟨u, v, x, hx⟩ := Y2
    exact set3_at hx _ _ _
  obtain ⟨W3, hW3⟩ : ∃ W3, W3 = (((W2.setCell ⟨w.heap.size, 0, none⟩ (.bool s2)).setCell ⟨w.heap.size, 1, none⟩ (.slice a2 0 c2)).setCell ⟨w.heap.size, 2, none⟩ (.slice o2 m2 d2)) := ⟨_, rfl⟩
  rw [← hW3] at hE X3 x3
  go_upto_region 2 with fail
  rw [← hW3]
  clear hW3 y0 y1 y2 t0 t1 t2 Y2 X2 cq2 b2 e0 e1 e2 hBX h1
  obtain ⟨k0, k1, k2, _⟩ := at_block x3
  have hlt := X3.lt
  go_wp2_with fail
  refine (FI.out _).mono ?_; rintro e W4 ⟨s5, a5, n5, c5, o5, m5, d5, rfl, cq5, b5⟩
  have X5 := X3.below b5
  obtain ⟨u0, u1, u2, q0, q1, q2, z0, z1, z2⟩ := X5.facts
  have HB := Lib.hid (hE.trans (b5.mono hE.size))
  go_wp2_with fail
  refine bodyPost_ret (v := .tuple #[.agg #[.bool s5, .slice a5 n5 c5, .slice o5 m5 d5], .int .i64 0]) (by simp [results, Tryd.results13, go_sem, q0, q1, q2]) rfl ?_
  exact MakesE.of (MakesQ.lift cq5 rfl hlt (Nat.le_succ _) HB.out _ _ _)
set_option maxHeartbeats 20000000 in
set_option maxRecDepth 100000 in
theorem rPower_nil_one (s : Bool) (ao bo : Option Addr) (n ca m cb : Nat) (q : Rat) (w : World) (h : RQ w s ao n ca bo m cb q 2) (hq0 : q = 0) :
    Calls Tryd.prog 13 #[.agg #[.bool s, .slice ao n ca, .slice bo m cb], .int .i64 0] w (MakesE 1 2 w) := by
  obtain ⟨W1, hW1, hsz, B0, X0, K⟩ := boxes1 w s ao n ca bo m cb
  have h1 := h.below B0
  have hb1 : Below (w.heap.size + 1) W1 W1 := Below.refl _ _
  obtain ⟨e0, e1, e2, _⟩ := K.out W1 hb1 X0
  have hBX : Box3 W1 w.heap.size := by
    rw [hW1]
    exact ⟨_, _, _, (Below.heap_alloc _ _ _ (by simp)).trans (heap_alloc_new w _)⟩
  have FI : Hid (∀ w', Calls Tryd.prog 29 #[.int .i64 (1 - min 0 1)] w' (MakesQ 1 2 w')) := fun w' => rFromInt_q 1 (by omega) (by omega) w'
  have HQ0 := Lib.hid hq0
  clear h hsz hq0 hb1
  go_enter Tryd.func13, Tryd.ntmps13
  go_wp2_with fail
  rw [← hW1]
  clear hW1
  refine (rNormalize_q s ao bo n ca m cb 2 q _ h1).mono ?_; rintro e W2 ⟨s2, a2, n2, c2, o2, m2, d2, rfl, cq2, b2⟩
  have Y2 := hBX.below b2
  have X2 := X0.below b2
  have hn0 : n2 = 0 := by rw [cq2.2.1, HQ0.out]; rfl
  subst hn0
  obtain ⟨v0, v1, v2, y0, y1, y2, t0, t1, t2⟩ := Y2.facts
  have hE := below3 (B := w.heap.size) (B0.trans (b2.mono B0.size)) (Nat.le_refl _) (.bool s2) (.slice a2 0 c2) (.slice o2 m2 d2)
  have X3 : Box3 (((W2.setCell ⟨w.heap.size, 0, none⟩ (.bool s2)).setCell ⟨w.heap.size, 1, none⟩ (.slice a2 0 c2)).setCell ⟨w.heap.size, 2, none⟩ (.slice o2 m2 d2)) (w.heap.size + 1) := by
    obtain ⟨u, v, x, hx⟩ := X2
    exact ⟨u, v, x, (set3_off (by omega) _ _ _).trans hx⟩
  have x3 : (((W2.setCell ⟨w.heap.size, 0, none⟩ (.bool s2)).setCell ⟨w.heap.size, 1, none⟩ (.slice a2 0 c2)).setCell ⟨w.heap.size, 2, none⟩ (.slice o2 m2 d2)).heap[w.heap.size]? = some (.cells #[.bool s2, .slice a2 0 c2, .slice o2 m2 d2] 27 (0, 0)) := by
    obtain ⟨u, v, x, hx⟩ := Y2
    exact set3_at hx _ _ _
  obtain ⟨W3, hW3⟩ : ∃ W3, W3 = (((W2.setCell ⟨w.heap.size, 0, none⟩ (.bool s2)).setCell ⟨w.heap.size, 1, none⟩ (.slice a2 0 c2)).setCell ⟨w.heap.size, 2, none⟩ (.slice o2 m2 d2)) := ⟨_, rfl⟩
  rw [← hW3] at hE X3 x3
  go_upto_region 2 with fail
  rw [← hW3]
  clear hW3 y0 y1 y2 t0 t1 t2 Y2 X2 cq2 b2 e0 e1 e2 hBX h1
  obtain ⟨k0, k1, k2, _⟩ := at_block x3
  have hlt := X3.lt
  go_wp2_with fail
  refine (FI.out _).mono ?_; rintro e W4 ⟨s5, a5, n5, c5, o5, m5, d5, rfl, cq5, b5⟩
  have X5 := X3.below b5
  obtain ⟨u0, u1, u2, q0, q1, q2, z0, z1, z2⟩ := X5.facts
  have HB := Lib.hid (hE.trans (b5.mono hE.size))
  go_wp2_with fail
  refine bodyPost_ret (v := .tuple #[.agg #[.bool s5, .slice a5 n5 c5, .slice o5 m5 d5], .int .i64 0]) (by simp [results, Tryd.results13, go_sem, q0, q1, q2]) rfl ?_
  exact MakesE.of (MakesQ.lift cq5 rfl hlt (Nat.le_succ _) HB.out _ _ _)
end Go.Proofs.YtbfmmkglfmlglaaDoor
/- rational.Power and the reference's Power answer alike at every exponent. -/
namespace Go.Proofs.YtbfmmkglfmlglaaDoor
open Go.RowKit

/-- a number and an error -/
def PowV (Q : Rat) (y : Int) (w : World) (e : Ending) (w' : World) : Prop := ∃ s ao n ca bo m cb, e = .returned (.tuple #[.agg #[.bool s, .slice ao n ca, .slice bo m cb], .int .i64 y]) ∧ CQ 0 w' s ao n ca bo m cb Q 5000 ∧ Below w.heap.size w w'
theorem PowV.of {q : Rat} {k : Nat} {w w' : World} {e : Ending} (h : MakesE q k w e w') (hk : k ≤ 5000) : PowV q 0 w e w' := by
  obtain ⟨s, ao, n, ca, bo, m, cb, rfl, hc, hb⟩ := h
  have hc' := hc.mono (Nat.zero_le _)
  obtain ⟨h1, h2, h3, h4, h5, h6, h7⟩ := hc'
  exact ⟨s, ao, n, ca, bo, m, cb, rfl, ⟨h1, h2, h3, h4, h5, h6.up hk (by omega), h7.up hk (by omega)⟩, hb⟩
theorem PowV.err {w w' : World} {e : Ending} {y : Int} (h : e = .returned (.tuple #[.agg #[.bool false, .slice none 0 0, .slice none 0 0], .int .i64 y]) ∧ Below w.heap.size w w') : PowV 0 y w e w' :=
  ⟨false, none, 0, 0, none, 0, 0, h.1, ⟨rfl, rfl, rfl, Fr.nil _ _, Fr.nil _ _, ⟨pw_pos _, by omega⟩, ⟨one_lt_pw (by omega), by omega⟩⟩, h.2⟩
def PowP (q Q : Rat) (i y : Int) : Prop := ∀ (s : Bool) (ao bo : Option Addr) (n ca m cb : Nat) (w : World), RQ w s ao n ca bo m cb q 2 → Calls Tryd.prog 12 #[.agg #[.bool s, .slice ao n ca, .slice bo m cb], .int .i64 i] w (PowV Q y w)
def PowR (q Q : Rat) (i y : Int) : Prop := ∀ (s : Bool) (ao bo : Option Addr) (n ca m cb : Nat) (w : World), RQ w s ao n ca bo m cb q 2 → Calls Tryd.prog 13 #[.agg #[.bool s, .slice ao n ca, .slice bo m cb], .int .i64 i] w (PowV Q y w)
theorem powE0 (q : Rat) : powE q 0 false = 1 := by
  unfold powE odd
  simp
  rfl

theorem power_both (q : Rat) (i : Int) (h0 : -9223372036854775808 ≤ i) (h1 : i ≤ 9223372036854775807) : ∃ Q y, Hid (PowP q Q i y) ∧ Hid (PowR q Q i y) := by
  by_cases hq : q = 0
  · rcases Int.lt_trichotomy i 0 with hi | hi | hi
    · exact ⟨0, 20, fun s ao bo n ca m cb w h => (Power_nil s ao bo n ca m cb i q w h hq hi).mono fun _ _ h => PowV.err h, fun s ao bo n ca m cb w h => (rPower_nil s ao bo n ca m cb i q w h hq hi).mono fun _ _ h => PowV.err h⟩
    · subst hi
      refine ⟨1, 0, fun s ao bo n ca m cb w h => (Power_zero s ao bo n ca m cb q w).mono fun _ _ h => ?_, fun s ao bo n ca m cb w h => (rPower_nil_one s ao bo n ca m cb q w h hq).mono fun _ _ h => PowV.of h (by omega)⟩
      rw [powE0] at h
      exact PowV.of h (by omega)
    · exact ⟨0, 0, fun s ao bo n ca m cb w h => (Power_nil_up s ao bo n ca m cb i q w h hq hi).mono fun _ _ h => PowV.of h (by omega), fun s ao bo n ca m cb w h => (rPower_nil_up s ao bo n ca m cb i q w h hq hi).mono fun _ _ h => PowV.of h (by omega)⟩
  · obtain ⟨j, ng, hij, hjn⟩ : ∃ (j : Nat) (ng : Bool), i = (if ng then -(j : Int) else (j : Int)) ∧ (ng = true → 0 < j) := by
      by_cases hn : i < 0
      · exact ⟨i.natAbs, true, by rw [if_pos rfl]; omega, fun _ => by omega⟩
      · exact ⟨i.natAbs, false, by rw [if_neg (by simp)]; omega, fun h => by cases h⟩
    have hjb : j ≤ 9223372036854775808 := by
      have := hij
      cases ng <;> simp at this <;> omega
    have hb1 := bl_pos (rn_pos hq)
    have hb2 := bl_pos (den_pos q)
    have hz0 : j = 0 → i = 0 ∧ ng = false := fun e => by
      subst e
      cases ng
      · exact ⟨by rw [hij]; rfl, rfl⟩
      · have := hjn rfl; omega
    by_cases hs : max (bl (rn q)) (bl q.den) = 1
    · rcases Nat.eq_zero_or_pos j with hj | hj
      · obtain ⟨e1, e2⟩ := hz0 hj
        subst hj e2
        refine ⟨powE q 0 false, 0, fun s ao bo n ca m cb w h => ?_, fun s ao bo n ca m cb w h => (rPower_unit s ao bo n ca m cb 0 false i q w h hq hjb hij h1 hs).mono fun _ _ h => PowV.of h (by omega)⟩
        rw [e1]
        exact (Power_zero s ao bo n ca m cb q w).mono fun _ _ h => PowV.of h (by omega)
      · exact ⟨powE q j ng, 0, fun s ao bo n ca m cb w h => (Power_unit s ao bo n ca m cb j ng i q w h hq hj hjb h1 hs hij).mono fun _ _ h => PowV.of h (by omega), fun s ao bo n ca m cb w h => (rPower_unit s ao bo n ca m cb j ng i q w h hq hjb hij h1 hs).mono fun _ _ h => PowV.of h (by omega)⟩
    · have hs2 : 2 ≤ max (bl (rn q)) (bl q.den) := by omega
      obtain ⟨z, hz⟩ : ∃ z, z = max (bl (rn q)) (bl q.den) := ⟨_, rfl⟩
      by_cases hbig : j ≤ 131072 / max (bl (rn q)) (bl q.den)
      · have hQ : 131072 / z * z ≤ 131072 := Nat.div_mul_le_self _ _
        rw [← hz] at hbig hs2
        have hm := Nat.mul_le_mul hbig hs2
        have hj5 : j ≤ 65536 := by have := Nat.mul_le_mul_left (131072 / z) hs2; omega
        have hf : ∀ b, b ≤ z → b * j ≤ 131072 := fun b hb => Nat.le_trans (Nat.mul_le_mul hb hbig) (by rw [Nat.mul_comm]; exact hQ)
        have f1 := hf (bl (rn q)) (by rw [hz]; exact Nat.le_max_left _ _)
        have f2 := hf (bl q.den) (by rw [hz]; exact Nat.le_max_right _ _)
        rw [hz] at hbig hs2
        have RF : PowR q (powE q j ng) i 0 := fun s ao bo n ca m cb w h => (rPower_fit s ao bo n ca m cb j ng i q w h hq hjn hj5 hij h1 hs2 hbig).mono fun _ _ h => PowV.of h (by omega)
        rcases Nat.eq_zero_or_pos j with hj | hj
        · obtain ⟨e1, e2⟩ := hz0 hj
          refine ⟨powE q j ng, 0, fun s ao bo n ca m cb w h => ?_, RF⟩
          rw [e1, hj, e2]
          exact (Power_zero s ao bo n ca m cb q w).mono fun _ _ h => PowV.of h (by omega)
        · exact ⟨powE q j ng, 0, fun s ao bo n ca m cb w h => (Power_fit s ao bo n ca m cb j ng i q w h hq hj hj5 ⟨f1, f2⟩ hij).mono fun _ _ h => PowV.of h (by omega), RF⟩
      · have hbg : 131072 / max (bl (rn q)) (bl q.den) < j := Nat.lt_of_not_le hbig
        have hj : 0 < j := Nat.lt_of_le_of_lt (Nat.zero_le _) hbg
        exact ⟨0, 21, fun s ao bo n ca m cb w h => (Power_big s ao bo n ca m cb j ng i q w h hq hj hjb h1 hs2 hbg hij).mono fun _ _ h => PowV.err h, fun s ao bo n ca m cb w h => (rPower_big s ao bo n ca m cb j ng i q w h hq hj hjb hij h1 hs2 hbg).mono fun _ _ h => PowV.err h⟩
end Go.Proofs.YtbfmmkglfmlglaaDoor
