import Derived.Test.YtlgcflapgdkghaaDoorRat9
/- RationalProducts: the walk. -/
namespace Go.Proofs.YtlgcflapgdkghaaDoor
open Go.RowKit

/-- two structs that the law holds, cut -/
theorem cells6 {w : World} {g : Nat} {u v x u' v' x' : Value} (h1 : w.heap[g]? = some (.cells #[u, v, x] 25 (0, 0))) (h2 : w.heap[g + 1]? = some (.cells #[u', v', x'] 25 (0, 0))) :
    (w.cell? ⟨g, 0, none⟩ = some u ∧ w.cell? ⟨g, 1, none⟩ = some v ∧ w.cell? ⟨g, 2, none⟩ = some x ∧ w.frozen? ⟨g, 0, none⟩ = false ∧ w.frozen? ⟨g, 1, none⟩ = false ∧ w.frozen? ⟨g, 2, none⟩ = false) ∧
    (w.cell? ⟨g + 1, 0, none⟩ = some u' ∧ w.cell? ⟨g + 1, 1, none⟩ = some v' ∧ w.cell? ⟨g + 1, 2, none⟩ = some x' ∧ w.frozen? ⟨g + 1, 0, none⟩ = false ∧ w.frozen? ⟨g + 1, 1, none⟩ = false ∧ w.frozen? ⟨g + 1, 2, none⟩ = false) :=
  ⟨at_block h1, at_block h2⟩
theorem set3_at {w : World} {g : Nat} {u v x : Value} (h : w.heap[g]? = some (.cells #[u, v, x] 25 (0, 0))) (a b c : Value) : (((w.setCell ⟨g, 0, none⟩ a).setCell ⟨g, 1, none⟩ b).setCell ⟨g, 2, none⟩ c).heap[g]? = some (.cells #[a, b, c] 25 (0, 0)) := by
  simp [World.setCell, Array.getElem?_modify, h]
theorem set3_off {w : World} {g k : Nat} (hk : k ≠ g) (a b c : Value) : (((w.setCell ⟨g, 0, none⟩ a).setCell ⟨g, 1, none⟩ b).setCell ⟨g, 2, none⟩ c).heap[k]? = w.heap[k]? := by
  simp [World.setCell, Array.getElem?_modify, Ne.symm hk]
theorem carry {w w' : World} {g : Nat} {o : Obj} (h : w.heap[g]? = some o) (hb : Below w.heap.size w w') : w'.heap[g]? = some o := (hb.block g (Array.getElem?_eq_some_iff.1 h).1).trans h
/-- what the cut structs are worth -/
theorem cut_rq {s : Bool} {ao bo : Option Addr} {ca cb : Nat} {xs ys us vs : List Nat} {w : World} (ha : Rd w ao ca xs) (hb : Rd w bo cb ys) (hu : us = xs.take 12) (hv : vs = ys.take 12) : RQ w s ao us.length ca bo vs.length cb (rq s (val us) (dn (val vs))) 12 := by
  obtain ⟨n1, s1⟩ := Cut_num ha hu
  obtain ⟨n2, s2⟩ := Cut_num hb hv
  refine ⟨val us, val vs, n1, n2, s1, s2, rfl, ?_⟩
  unfold dn; split
  · exact ⟨by simp [pw], by omega⟩
  · exact s2

set_option maxHeartbeats 20000000 in
set_option maxRecDepth 100000 in
theorem RationalProducts_any (s t : Bool) (ao bo po qo : Option Addr) (ca cb cl cj : Nat) (xs ys zs ts : List Nat) (w : World) (hx : Rd w ao ca xs) (hy : Rd w bo cb ys) (hz : Rd w po cl zs) (ht : Rd w qo cj ts) (htab : Tab w) :
    Calls Tryd.prog 7 #[.agg #[.bool s, .slice ao xs.length ca, .slice bo ys.length cb], .agg #[.bool t, .slice po zs.length cl, .slice qo ts.length cj]] w fun e w' => e = .returned (.bool true) ∧ Below w.heap.size w w' := by
  obtain ⟨us, hu⟩ : ∃ us, us = xs.take 12 := ⟨_, rfl⟩
  obtain ⟨vs, hv⟩ : ∃ vs, vs = ys.take 12 := ⟨_, rfl⟩
  obtain ⟨us', hu'⟩ : ∃ us', us' = zs.take 12 := ⟨_, rfl⟩
  obtain ⟨vs', hv'⟩ : ∃ vs', vs' = ts.take 12 := ⟨_, rfl⟩
  have RX := cut_rq (s := s) hx hy hu hv
  have RY := cut_rq (s := t) hz ht hu' hv'
  obtain ⟨p, hp⟩ : ∃ p, p = rq s (val us) (dn (val vs)) := ⟨_, rfl⟩
  obtain ⟨q, hq⟩ : ∃ q, q = rq t (val us') (dn (val vs')) := ⟨_, rfl⟩
  rw [← hp] at RX
  rw [← hq] at RY
  clear hp hq
  obtain ⟨W1, hW1⟩ : ∃ W1, W1 = (w.alloc (.cells #[.bool s, .slice ao xs.length ca, .slice bo ys.length cb] 25)).alloc (.cells #[.bool t, .slice po zs.length cl, .slice qo ts.length cj] 25) := ⟨_, rfl⟩
  have hs1 : W1.heap.size = w.heap.size + 1 + 1 := by rw [hW1]; simp
  have B0 : Below w.heap.size w W1 := by rw [hW1]; exact (below_new w _).alloc (by simp) _
  have x0 : W1.heap[w.heap.size]? = some (.cells #[.bool s, .slice ao xs.length ca, .slice bo ys.length cb] 25 (0, 0)) := by
    rw [hW1, Below.heap_alloc _ _ _ (by simp)]; exact heap_alloc_new w _
  have y0 : W1.heap[w.heap.size + 1]? = some (.cells #[.bool t, .slice po zs.length cl, .slice qo ts.length cj] 25 (0, 0)) := by
    rw [hW1]; have := heap_alloc_new (w.alloc (.cells #[.bool s, .slice ao xs.length ca, .slice bo ys.length cb] 25)) (.cells #[.bool t, .slice po zs.length cl, .slice qo ts.length cj] 25); rwa [World.size_alloc] at this
  have CX : Hid (∀ w', Below w.heap.size w w' → Calls Tryd.prog 14 #[.agg #[.bool s, .slice ao xs.length ca, .slice bo ys.length cb]] w' fun e w'' => e = .returned (.agg #[.bool s, .slice ao us.length ca, .slice bo vs.length cb]) ∧ Below w'.heap.size w' w'') := fun w' hb => CutRatio_any s ao bo ca cb xs ys us vs w' (hx.below hb) (hy.below hb) hu hv
  have CY : Hid (∀ w', Below w.heap.size w w' → Calls Tryd.prog 14 #[.agg #[.bool t, .slice po zs.length cl, .slice qo ts.length cj]] w' fun e w'' => e = .returned (.agg #[.bool t, .slice po us'.length cl, .slice qo vs'.length cj]) ∧ Below w'.heap.size w' w'') := fun w' hb => CutRatio_any t po qo cl cj zs ts us' vs' w' (hz.below hb) (ht.below hb) hu' hv'
  obtain ⟨⟨e0, e1, e2, _⟩, ⟨e3, e4, e5, _⟩⟩ := cells6 x0 y0
  have HS := Lib.hid hs1
  clear hx hy hz ht hu hv hu' hv' hs1
  go_enter Tryd.func7, Tryd.ntmps7
  go_wp2_with fail
  rw [← hW1]
  clear hW1
  go_region_with (first
    | (go_at_call_of 14 (Value.agg #[.bool s, .slice ao xs.length ca, .slice bo ys.length cb]); refine (CX.out _ B0.drew).mono ?_; rintro e W2 ⟨rfl, b1⟩; have B2 : Below w.heap.size w W2 := B0.drew.trans (b1.mono B0.drew.size); have x2 := (b1.block w.heap.size (by show w.heap.size < W1.heap.size; rw [HS.out]; omega)).trans (show W1.drew.heap[w.heap.size]? = _ from x0); have y2 := (b1.block (w.heap.size + 1) (by show w.heap.size + 1 < W1.heap.size; rw [HS.out]; omega)).trans (show W1.drew.heap[w.heap.size + 1]? = _ from y0); obtain ⟨_, ⟨g3, g4, g5, _⟩⟩ := cells6 x2 y2)
    | (go_at_call_of 14 (Value.agg #[.bool t, .slice po zs.length cl, .slice qo ts.length cj]); refine (CY.out _ B2).mono ?_; rintro e W3 ⟨rfl, b2⟩; have B3 : Below w.heap.size w W3 := B2.trans (b2.mono B2.size); have hz2 : w.heap.size + 1 < W2.heap.size := (by obtain ⟨h, _⟩ := Array.getElem?_eq_some_iff.1 y2; exact h); have x3 := (b2.block w.heap.size (by omega)).trans x2; have y3 := (b2.block (w.heap.size + 1) hz2).trans y2; obtain ⟨⟨k0, k1, k2, k6, k7, k8⟩, ⟨k3, k4, k5, k9, k10, k11⟩⟩ := cells6 x3 y3))
  all_goals
    have HG : w.heap.size ≠ w.heap.size + 1 := by omega
    have x4 : ((((((W3.setCell ⟨w.heap.size, 0, none⟩ (.bool s)).setCell ⟨w.heap.size, 1, none⟩ (.slice ao us.length ca)).setCell ⟨w.heap.size, 2, none⟩ (.slice bo vs.length cb)).setCell ⟨w.heap.size + 1, 0, none⟩ (.bool t)).setCell ⟨w.heap.size + 1, 1, none⟩ (.slice po us'.length cl)).setCell ⟨w.heap.size + 1, 2, none⟩ (.slice qo vs'.length cj)).heap[w.heap.size]? = some (.cells #[.bool s, .slice ao us.length ca, .slice bo vs.length cb] 25 (0, 0)) := by
      rw [set3_off HG]; exact set3_at x3 _ _ _
    have y4 : ((((((W3.setCell ⟨w.heap.size, 0, none⟩ (.bool s)).setCell ⟨w.heap.size, 1, none⟩ (.slice ao us.length ca)).setCell ⟨w.heap.size, 2, none⟩ (.slice bo vs.length cb)).setCell ⟨w.heap.size + 1, 0, none⟩ (.bool t)).setCell ⟨w.heap.size + 1, 1, none⟩ (.slice po us'.length cl)).setCell ⟨w.heap.size + 1, 2, none⟩ (.slice qo vs'.length cj)).heap[w.heap.size + 1]? = some (.cells #[.bool t, .slice po us'.length cl, .slice qo vs'.length cj] 25 (0, 0)) :=
      set3_at ((set3_off HG.symm _ _ _).trans y3) _ _ _
    have B4 := below3 (below3 B3 (Nat.le_refl _) (.bool s) (.slice ao us.length ca) (.slice bo vs.length cb)) (show w.heap.size ≤ w.heap.size + 1 by omega) (.bool t) (.slice po us'.length cl) (.slice qo vs'.length cj)
    obtain ⟨W4, hW4⟩ : ∃ W4, W4 = ((((((W3.setCell ⟨w.heap.size, 0, none⟩ (.bool s)).setCell ⟨w.heap.size, 1, none⟩ (.slice ao us.length ca)).setCell ⟨w.heap.size, 2, none⟩ (.slice bo vs.length cb)).setCell ⟨w.heap.size + 1, 0, none⟩ (.bool t)).setCell ⟨w.heap.size + 1, 1, none⟩ (.slice po us'.length cl)).setCell ⟨w.heap.size + 1, 2, none⟩ (.slice qo vs'.length cj)) := ⟨_, rfl⟩
    rw [← hW4] at x4 y4 B4 ⊢
    obtain ⟨⟨h0, h1, h2, _⟩, ⟨h3, h4, h5, _⟩⟩ := cells6 x4 y4
    clear hW4 x3 y3 x2 y2 x0 y0 k0 k1 k2 k3 k4 k5 k6 k7 k8 k9 k10 k11 g3 g4 g5 e0 e1 e2 e3 e4 e5 b1 b2 B0 B2 B3 CX CY HS hz2
    have r1 := RX.below B4
    have r2 := RY.below B4
    go_wp2_with fail
    refine (Mul_q s t ao bo po qo us.length ca vs.length cb us'.length cl vs'.length cj 12 p q _ r1 r2 (by omega)).mono ?_; rintro e W5 ⟨s5, a5, n5, c5, o5, m5, d5, rfl, cq5, b5⟩
    have n5x := below_new W5 (.cells #[.bool s5, .slice a5 n5 c5, .slice o5 m5 d5] 25)
    have B5 := (B4.trans (b5.mono B4.size)).trans (n5x.mono (B4.trans (b5.mono B4.size)).size)
    have x5 := carry (carry x4 b5) n5x
    have y5 := carry (carry y4 b5) n5x
    have z5 := heap_alloc_new W5 (.cells #[.bool s5, .slice a5 n5 c5, .slice o5 m5 d5] 25)
    replace cq5 := cq5.below n5x
    obtain ⟨W6, hW6⟩ : ∃ W6, W6 = W5.alloc (.cells #[.bool s5, .slice a5 n5 c5, .slice o5 m5 d5] 25) := ⟨_, rfl⟩
    have F6 := cells6 x5 y5
    obtain ⟨⟨i0, i1, i2, _⟩, ⟨i3, i4, i5, _⟩⟩ := F6
    clear h0 h1 h2 h3 h4 h5 x4 y4 r1 r2
    go_wp2_with fail
    rw [← hW6] at x5 y5 z5 cq5 B5 ⊢
    clear hW6 n5x i0 i1 i2 i3 i4 i5
    refine (Quo_any s t ao bo po qo us.length ca vs.length cb us'.length cl vs'.length cj 12 p q _ (RX.below B5) (RY.below B5) (by omega)).mono ?_; rintro e W7 ⟨s7, a7, n7, c7, o7, m7, d7, er, rfl, cq7, her, b7⟩
    have n7x := below_new W7 (.cells #[.bool s7, .slice a7 n7 c7, .slice o7 m7 d7] 25)
    have B7 := (B5.trans (b7.mono B5.size)).trans (n7x.mono (B5.trans (b7.mono B5.size)).size)
    have x7 := carry (carry x5 b7) n7x
    have y7 := carry (carry y5 b7) n7x
    have w7 := carry (carry z5 b7) n7x
    have z7 := heap_alloc_new W7 (.cells #[.bool s7, .slice a7 n7 c7, .slice o7 m7 d7] 25)
    replace cq5 := (cq5.below b7).below n7x
    replace cq7 := cq7.below n7x
    obtain ⟨W8, hW8⟩ : ∃ W8, W8 = W7.alloc (.cells #[.bool s7, .slice a7 n7 c7, .slice o7 m7 d7] 25) := ⟨_, rfl⟩
    obtain ⟨⟨i0, i1, i2, _⟩, ⟨i3, i4, i5, _⟩⟩ := cells6 x7 y7
    go_wp2_with fail
    rw [← hW8] at x7 y7 w7 z7 cq5 cq7 B7 ⊢
    clear hW8 n7x i0 i1 i2 i3 i4 i5 x5 y5 z5 B5 b5 b7
    refine (rQuo_any s t ao bo po qo us.length ca vs.length cb us'.length cl vs'.length cj 12 p q _ (RX.below B7) (RY.below B7) (by omega)).mono ?_; rintro e W9 ⟨s9, a9, n9, c9, o9, m9, d9, er', rfl, cq9, her', b9⟩
    have n9x := below_new W9 (.cells #[.bool s9, .slice a9 n9 c9, .slice o9 m9 d9] 25)
    have B9 := (B7.trans (b9.mono B7.size)).trans (n9x.mono (B7.trans (b9.mono B7.size)).size)
    have x9 := carry (carry x7 b9) n9x
    have y9 := carry (carry y7 b9) n9x
    have w9 := carry (carry w7 b9) n9x
    have v9 := carry (carry z7 b9) n9x
    have z9 := heap_alloc_new W9 (.cells #[.bool s9, .slice a9 n9 c9, .slice o9 m9 d9] 25)
    replace cq5 := (cq5.below b9).below n9x
    replace cq7 := (cq7.below b9).below n9x
    replace cq9 := cq9.below n9x
    obtain ⟨W10, hW10⟩ : ∃ W10, W10 = W9.alloc (.cells #[.bool s9, .slice a9 n9 c9, .slice o9 m9 d9] 25) := ⟨_, rfl⟩
    rw [← hW10] at x9 y9 w9 v9 z9 cq5 cq7 cq9 B9
    have K : Hid (∀ w', Below W10.heap.size W10 w' → w'.cell? ⟨w.heap.size, 0, none⟩ = some (.bool s) ∧ w'.cell? ⟨w.heap.size, 1, none⟩ = some (.slice ao us.length ca) ∧ w'.cell? ⟨w.heap.size, 2, none⟩ = some (.slice bo vs.length cb) ∧ w'.cell? ⟨w.heap.size + 1, 0, none⟩ = some (.bool t) ∧ w'.cell? ⟨w.heap.size + 1, 1, none⟩ = some (.slice po us'.length cl) ∧ w'.cell? ⟨w.heap.size + 1, 2, none⟩ = some (.slice qo vs'.length cj) ∧ w'.cell? ⟨W5.heap.size, 0, none⟩ = some (.bool s5) ∧ w'.cell? ⟨W5.heap.size, 1, none⟩ = some (.slice a5 n5 c5) ∧ w'.cell? ⟨W5.heap.size, 2, none⟩ = some (.slice o5 m5 d5) ∧ w'.cell? ⟨W7.heap.size, 0, none⟩ = some (.bool s7) ∧ w'.cell? ⟨W7.heap.size, 1, none⟩ = some (.slice a7 n7 c7) ∧ w'.cell? ⟨W7.heap.size, 2, none⟩ = some (.slice o7 m7 d7) ∧ w'.cell? ⟨W9.heap.size, 0, none⟩ = some (.bool s9) ∧ w'.cell? ⟨W9.heap.size, 1, none⟩ = some (.slice a9 n9 c9) ∧ w'.cell? ⟨W9.heap.size, 2, none⟩ = some (.slice o9 m9 d9) ∧ Below W10.heap.size W10 w') := by
      intro w' hb
      obtain ⟨⟨j0, j1, j2, _⟩, ⟨j3, j4, j5, _⟩⟩ := cells6 (carry x9 hb) (carry y9 hb)
      obtain ⟨k0, k1, k2, _⟩ := at_block (carry w9 hb)
      obtain ⟨l0, l1, l2, _⟩ := at_block (carry v9 hb)
      obtain ⟨m0, m1, m2, _⟩ := at_block (carry z9 hb)
      exact ⟨j0, j1, j2, j3, j4, j5, k0, k1, k2, l0, l1, l2, m0, m1, m2, hb⟩
    have KB : Hid (∀ w', Below W10.heap.size W10 w' → Below w.heap.size w w') := fun w' hb => B9.trans (hb.mono B9.size)
    have K5 : Hid (∀ w', Below W10.heap.size W10 w' → CQ W4.heap.size w' s5 a5 n5 c5 o5 m5 d5 (p * q) (12 + 12 + 1)) := fun w' hb => cq5.below hb
    have K7 : Hid (∀ w', Below W10.heap.size W10 w' → CQ W6.heap.size w' s7 a7 n7 c7 o7 m7 d7 (p / q) (12 + 12 + 1)) := fun w' hb => cq7.below hb
    have K9 : Hid (∀ w', Below W10.heap.size W10 w' → CQ W8.heap.size w' s9 a9 n9 c9 o9 m9 d9 (p / q) (12 + 12 + 1)) := fun w' hb => cq9.below hb
    obtain ⟨bz, hbz⟩ : ∃ bz : Bool, bz = decide (q = 0) := ⟨_, rfl⟩
    obtain ⟨z, hz⟩ : ∃ z, z = sgn q := ⟨_, rfl⟩
    have ee : (er == er') = true := by rw [beq_iff_eq]; rcases her with ⟨h1, h2⟩ | ⟨h1, h2⟩ <;> rcases her' with ⟨h3, h4⟩ | ⟨h3, h4⟩ <;> first | exact absurd h1 h3 | exact absurd h3 h1 | rw [h2, h4]
    have e20 : (er == 20) = bz := by rcases her with ⟨h1, h2⟩ | ⟨h1, h2⟩ <;> rw [hbz, h2] <;> simp [h1]
    have ez : (z == 0) = bz := by
      rw [hbz, hz]
      by_cases h : q = 0
      · rw [decide_eq_true h, beq_iff_eq]; exact sgn_zero_iff.2 h
      · rw [decide_eq_false h, beq_eq_false_iff_ne]; exact fun e => h (sgn_zero_iff.1 e)
    have HZ := Lib.hid hz.symm
    have hzb := sgn_mag q
    rw [← hz] at hzb
    have hTab := htab
    clear hbz hz her her' x7 y7 w7 z7 x9 y9 w9 v9 z9 cq5 cq7 cq9 B7 b9 n9x
    go_wp2_with fail
    rw [← hW10]
    clear hW10
    go_region_held3 (fun w' => w'.cell? ⟨w.heap.size, 0, none⟩ = some (.bool s) ∧ w'.cell? ⟨w.heap.size, 1, none⟩ = some (.slice ao us.length ca) ∧ w'.cell? ⟨w.heap.size, 2, none⟩ = some (.slice bo vs.length cb) ∧ w'.cell? ⟨w.heap.size + 1, 0, none⟩ = some (.bool t) ∧ w'.cell? ⟨w.heap.size + 1, 1, none⟩ = some (.slice po us'.length cl) ∧ w'.cell? ⟨w.heap.size + 1, 2, none⟩ = some (.slice qo vs'.length cj) ∧ w'.cell? ⟨W5.heap.size, 0, none⟩ = some (.bool s5) ∧ w'.cell? ⟨W5.heap.size, 1, none⟩ = some (.slice a5 n5 c5) ∧ w'.cell? ⟨W5.heap.size, 2, none⟩ = some (.slice o5 m5 d5) ∧ w'.cell? ⟨W7.heap.size, 0, none⟩ = some (.bool s7) ∧ w'.cell? ⟨W7.heap.size, 1, none⟩ = some (.slice a7 n7 c7) ∧ w'.cell? ⟨W7.heap.size, 2, none⟩ = some (.slice o7 m7 d7) ∧ w'.cell? ⟨W9.heap.size, 0, none⟩ = some (.bool s9) ∧ w'.cell? ⟨W9.heap.size, 1, none⟩ = some (.slice a9 n9 c9) ∧ w'.cell? ⟨W9.heap.size, 2, none⟩ = some (.slice o9 m9 d9) ∧ Below W10.heap.size W10 w')
      (first | exact K.out _ (Below.refl _ _).drew | exact K.out _ (keepB v1 (by assumption) (Nat.le_refl _)) | exact K.out _ (keepB v2 (by assumption) (Nat.le_refl _)) | exact K.out _ (keepB v3 (by assumption) (Nat.le_refl _)) | exact K.out _ (keepB v4 (by assumption) (Nat.le_refl _)) | exact K.out _ (keepB v5 (by assumption) (Nat.le_refl _)) | exact K.out _ (keepB v6 (by assumption) (Nat.le_refl _)) | exact K.out _ (keepB v7 (by assumption) (Nat.le_refl _)))
      (first
        | (go_at_call 42; go_split_ands; refine (rMul_q s t ao bo po qo us.length ca vs.length cb us'.length cl vs'.length cj 12 p q _ (RX.below (KB.out _ (by assumption))) (RY.below (KB.out _ (by assumption))) (by omega)).mono ?_; rintro e V1 ⟨s1, a1, n1, c1, o1, m1, d1, rfl, cr1, v1⟩)
        | (go_at_call_of 19 (Value.agg #[.bool s5, .slice a5 n5 c5, .slice o5 m5 d5]); go_split_ands; refine (Same_q (K5.out _ (by assumption)) cr1 rfl).mono ?_; rintro e V2 ⟨rfl, v2⟩)
        | (go_at_call_of 19 (Value.agg #[.bool s7, .slice a7 n7 c7, .slice o7 m7 d7]); go_split_ands; refine (Same_q (K7.out _ (by assumption)) (K9.out _ (by assumption)) rfl).mono ?_; rintro e V3 ⟨rfl, v3⟩)
        | (go_at_call_of 24 (Value.agg #[.bool s5, .slice a5 n5 c5, .slice o5 m5 d5]); go_split_ands; refine (canonical_q (K5.out _ (by assumption))).mono ?_; rintro e V4 ⟨rfl, v4⟩)
        | (go_at_call_of 24 (Value.agg #[.bool s7, .slice a7 n7 c7, .slice o7 m7 d7]); go_split_ands; refine (canonical_q (K7.out _ (by assumption))).mono ?_; rintro e V5 ⟨rfl, v5⟩)
        | (go_at_call 28; go_split_ands; refine (rSign_q t po qo us'.length cl vs'.length cj 12 q _ (RY.below (KB.out _ (by assumption)))).mono ?_; rintro e V6 ⟨rfl, v6⟩; rw [HZ.out])
        | (go_at_call 25; go_split_ands; refine (awake2_any _ (hTab.below (KB.out _ (by assumption)))).mono ?_; rintro e V7 ⟨rfl, v7⟩; have BV : Below W10.heap.size W10 V7 := keepB v7 (by assumption) (Nat.le_refl _)))
    go_wp2_with fail
    go_ret
    exact ⟨rfl, KB.out _ BV⟩
end Go.Proofs.YtlgcflapgdkghaaDoor
