import Derived.Test.YtlgcflapgdkghaaDoorRat10
/- RationalOrders: the walk. -/
namespace Go.Proofs.YtlgcflapgdkghaaDoor
open Go.RowKit

theorem wrap_neg {a : Int} (ha : -1 ≤ a ∧ a ≤ 1) : IntKind.i64.wrap (-a) = -a := by
  have : a = -1 ∨ a = 0 ∨ a = 1 := by omega
  rcases this with rfl | rfl | rfl <;> rfl
set_option maxHeartbeats 20000000 in
set_option maxRecDepth 100000 in
theorem RationalOrders_any (s t : Bool) (ao bo po qo : Option Addr) (ca cb cl cj : Nat) (xs ys zs ts : List Nat) (w : World) (hx : Rd w ao ca xs) (hy : Rd w bo cb ys) (hz : Rd w po cl zs) (ht : Rd w qo cj ts) (htab : Tab w) :
    Calls Tryd.prog 4 #[.agg #[.bool s, .slice ao xs.length ca, .slice bo ys.length cb], .agg #[.bool t, .slice po zs.length cl, .slice qo ts.length cj]] w fun e w' => e = .returned (.bool true) ∧ Below w.heap.size w w' := by
  obtain ⟨us, hu⟩ : ∃ us, us = xs.take 12 := ⟨_, rfl⟩
  obtain ⟨vs, hv⟩ : ∃ vs, vs = ys.take 12 := ⟨_, rfl⟩
  obtain ⟨us', hu'⟩ : ∃ us', us' = zs.take 12 := ⟨_, rfl⟩
  obtain ⟨vs', hv'⟩ : ∃ vs', vs' = ts.take 12 := ⟨_, rfl⟩
  have RX := cut_rq (s := s) hx hy hu hv
  have RY := cut_rq (s := t) hz ht hu' hv'
  obtain ⟨p, hp⟩ : ∃ p, p = rq s (val us) (dn (val vs)) := ⟨_, rfl⟩
  obtain ⟨q, hq⟩ : ∃ q, q = rq t (val us') (dn (val vs')) := ⟨_, rfl⟩
  rw [← hp] at RX
  rw [← hq] at RY
  clear hp hq
  obtain ⟨W1, hW1⟩ : ∃ W1, W1 = (w.alloc (.cells #[.bool s, .slice ao xs.length ca, .slice bo ys.length cb] 25)).alloc (.cells #[.bool t, .slice po zs.length cl, .slice qo ts.length cj] 25) := ⟨_, rfl⟩
  have hs1 : W1.heap.size = w.heap.size + 1 + 1 := by rw [hW1]; simp
  have B0 : Below w.heap.size w W1 := by rw [hW1]; exact (below_new w _).alloc (by simp) _
  have x0 : W1.heap[w.heap.size]? = some (.cells #[.bool s, .slice ao xs.length ca, .slice bo ys.length cb] 25 (0, 0)) := by
    rw [hW1, Below.heap_alloc _ _ _ (by simp)]; exact heap_alloc_new w _
  have y0 : W1.heap[w.heap.size + 1]? = some (.cells #[.bool t, .slice po zs.length cl, .slice qo ts.length cj] 25 (0, 0)) := by
    rw [hW1]; have := heap_alloc_new (w.alloc (.cells #[.bool s, .slice ao xs.length ca, .slice bo ys.length cb] 25)) (.cells #[.bool t, .slice po zs.length cl, .slice qo ts.length cj] 25); rwa [World.size_alloc] at this
  have CX : Hid (∀ w', Below w.heap.size w w' → Calls Tryd.prog 14 #[.agg #[.bool s, .slice ao xs.length ca, .slice bo ys.length cb]] w' fun e w'' => e = .returned (.agg #[.bool s, .slice ao us.length ca, .slice bo vs.length cb]) ∧ Below w'.heap.size w' w'') := fun w' hb => CutRatio_any s ao bo ca cb xs ys us vs w' (hx.below hb) (hy.below hb) hu hv
  have CY : Hid (∀ w', Below w.heap.size w w' → Calls Tryd.prog 14 #[.agg #[.bool t, .slice po zs.length cl, .slice qo ts.length cj]] w' fun e w'' => e = .returned (.agg #[.bool t, .slice po us'.length cl, .slice qo vs'.length cj]) ∧ Below w'.heap.size w' w'') := fun w' hb => CutRatio_any t po qo cl cj zs ts us' vs' w' (hz.below hb) (ht.below hb) hu' hv'
  obtain ⟨⟨e0, e1, e2, _⟩, ⟨e3, e4, e5, _⟩⟩ := cells6 x0 y0
  have HS := Lib.hid hs1
  clear hx hy hz ht hu hv hu' hv' hs1
  go_enter Tryd.func4, Tryd.ntmps4
  go_wp2_with fail
  rw [← hW1]
  clear hW1
  go_region_with (first
    | (go_at_call_of 14 (Value.agg #[.bool s, .slice ao xs.length ca, .slice bo ys.length cb]); refine (CX.out _ B0.drew).mono ?_; rintro e W2 ⟨rfl, b1⟩; have B2 : Below w.heap.size w W2 := B0.drew.trans (b1.mono B0.drew.size); have x2 := (b1.block w.heap.size (by show w.heap.size < W1.heap.size; rw [HS.out]; omega)).trans (show W1.drew.heap[w.heap.size]? = _ from x0); have y2 := (b1.block (w.heap.size + 1) (by show w.heap.size + 1 < W1.heap.size; rw [HS.out]; omega)).trans (show W1.drew.heap[w.heap.size + 1]? = _ from y0); obtain ⟨_, ⟨g3, g4, g5, _⟩⟩ := cells6 x2 y2)
    | (go_at_call_of 14 (Value.agg #[.bool t, .slice po zs.length cl, .slice qo ts.length cj]); refine (CY.out _ B2).mono ?_; rintro e W3 ⟨rfl, b2⟩; have B3 : Below w.heap.size w W3 := B2.trans (b2.mono B2.size); have hz2 : w.heap.size + 1 < W2.heap.size := (by obtain ⟨h, _⟩ := Array.getElem?_eq_some_iff.1 y2; exact h); have x3 := (b2.block w.heap.size (by omega)).trans x2; have y3 := (b2.block (w.heap.size + 1) hz2).trans y2; obtain ⟨⟨k0, k1, k2, k6, k7, k8⟩, ⟨k3, k4, k5, k9, k10, k11⟩⟩ := cells6 x3 y3))
  all_goals
    have HG : w.heap.size ≠ w.heap.size + 1 := by omega
    have x4 : ((((((W3.setCell ⟨w.heap.size, 0, none⟩ (.bool s)).setCell ⟨w.heap.size, 1, none⟩ (.slice ao us.length ca)).setCell ⟨w.heap.size, 2, none⟩ (.slice bo vs.length cb)).setCell ⟨w.heap.size + 1, 0, none⟩ (.bool t)).setCell ⟨w.heap.size + 1, 1, none⟩ (.slice po us'.length cl)).setCell ⟨w.heap.size + 1, 2, none⟩ (.slice qo vs'.length cj)).heap[w.heap.size]? = some (.cells #[.bool s, .slice ao us.length ca, .slice bo vs.length cb] 25 (0, 0)) := by
      rw [set3_off HG]; exact set3_at x3 _ _ _
    have y4 : ((((((W3.setCell ⟨w.heap.size, 0, none⟩ (.bool s)).setCell ⟨w.heap.size, 1, none⟩ (.slice ao us.length ca)).setCell ⟨w.heap.size, 2, none⟩ (.slice bo vs.length cb)).setCell ⟨w.heap.size + 1, 0, none⟩ (.bool t)).setCell ⟨w.heap.size + 1, 1, none⟩ (.slice po us'.length cl)).setCell ⟨w.heap.size + 1, 2, none⟩ (.slice qo vs'.length cj)).heap[w.heap.size + 1]? = some (.cells #[.bool t, .slice po us'.length cl, .slice qo vs'.length cj] 25 (0, 0)) :=
      set3_at ((set3_off HG.symm _ _ _).trans y3) _ _ _
    have B4 := below3 (below3 B3 (Nat.le_refl _) (.bool s) (.slice ao us.length ca) (.slice bo vs.length cb)) (show w.heap.size ≤ w.heap.size + 1 by omega) (.bool t) (.slice po us'.length cl) (.slice qo vs'.length cj)
    obtain ⟨W4, hW4⟩ : ∃ W4, W4 = ((((((W3.setCell ⟨w.heap.size, 0, none⟩ (.bool s)).setCell ⟨w.heap.size, 1, none⟩ (.slice ao us.length ca)).setCell ⟨w.heap.size, 2, none⟩ (.slice bo vs.length cb)).setCell ⟨w.heap.size + 1, 0, none⟩ (.bool t)).setCell ⟨w.heap.size + 1, 1, none⟩ (.slice po us'.length cl)).setCell ⟨w.heap.size + 1, 2, none⟩ (.slice qo vs'.length cj)) := ⟨_, rfl⟩
    rw [← hW4] at x4 y4 B4 ⊢
    obtain ⟨⟨h0, h1, h2, _⟩, ⟨h3, h4, h5, _⟩⟩ := cells6 x4 y4
    clear hW4 x3 y3 x2 y2 x0 y0 k0 k1 k2 k3 k4 k5 k6 k7 k8 k9 k10 k11 g3 g4 g5 e0 e1 e2 e3 e4 e5 b1 b2 B0 B2 B3 CX CY HS hz2
    have r1 := RX.below B4
    have r2 := RY.below B4
    obtain ⟨u, hu⟩ : ∃ u, u = sgn p := ⟨_, rfl⟩
    obtain ⟨z, hz⟩ : ∃ z, z = cq p q := ⟨_, rfl⟩
    have HU := Lib.hid hu.symm
    have HC := Lib.hid hz.symm
    have HC2 : Hid (cq q p = -z) := by show _ = _; rw [hz]; exact cq_swap p q
    have HD : Hid (sgn (p - q) = z) := hz.symm
    have hw : IntKind.i64.wrap (-z) = -z := wrap_neg (by rw [hz]; exact cq_mag p q)
    clear hu hz
    go_wp2_with fail
    refine (Compare_q s t ao bo po qo us.length ca vs.length cb us'.length cl vs'.length cj 12 p q _ r1 r2 (by omega)).mono ?_; rintro e W5 ⟨rfl, b5⟩; rw [HC.out]
    have B5 := B4.trans (b5.mono B4.size)
    have x5 := carry x4 b5
    have y5 := carry y4 b5
    have K : Hid (∀ w', Below W5.heap.size W5 w' → w'.cell? ⟨w.heap.size, 0, none⟩ = some (.bool s) ∧ w'.cell? ⟨w.heap.size, 1, none⟩ = some (.slice ao us.length ca) ∧ w'.cell? ⟨w.heap.size, 2, none⟩ = some (.slice bo vs.length cb) ∧ w'.cell? ⟨w.heap.size + 1, 0, none⟩ = some (.bool t) ∧ w'.cell? ⟨w.heap.size + 1, 1, none⟩ = some (.slice po us'.length cl) ∧ w'.cell? ⟨w.heap.size + 1, 2, none⟩ = some (.slice qo vs'.length cj) ∧ Below W5.heap.size W5 w') := by
      intro w' hb
      obtain ⟨⟨j0, j1, j2, _⟩, ⟨j3, j4, j5, _⟩⟩ := cells6 (carry x5 hb) (carry y5 hb)
      exact ⟨j0, j1, j2, j3, j4, j5, hb⟩
    have KB : Hid (∀ w', Below W5.heap.size W5 w' → Below w.heap.size w w') := fun w' hb => B5.trans (hb.mono B5.size)
    have hTab := htab
    clear h0 h1 h2 h3 h4 h5 x4 y4 x5 y5 r1 r2 b5
    go_wp2_with fail
    go_region_held3 (fun w' => w'.cell? ⟨w.heap.size, 0, none⟩ = some (.bool s) ∧ w'.cell? ⟨w.heap.size, 1, none⟩ = some (.slice ao us.length ca) ∧ w'.cell? ⟨w.heap.size, 2, none⟩ = some (.slice bo vs.length cb) ∧ w'.cell? ⟨w.heap.size + 1, 0, none⟩ = some (.bool t) ∧ w'.cell? ⟨w.heap.size + 1, 1, none⟩ = some (.slice po us'.length cl) ∧ w'.cell? ⟨w.heap.size + 1, 2, none⟩ = some (.slice qo vs'.length cj) ∧ Below W5.heap.size W5 w')
      (first | exact K.out _ (Below.refl _ _).drew | exact K.out _ (keepB v1 (by assumption) (Nat.le_refl _)) | exact K.out _ (keepB v2 (by assumption) (Nat.le_refl _)) | exact K.out _ (keepB v3 (by assumption) (Nat.le_refl _)) | exact K.out _ (keepB v4 (by assumption) (Nat.le_refl _)) | exact K.out _ (keepB v5 (by assumption) (Nat.le_refl _)) | exact K.out _ (keepB v6 (by assumption) (Nat.le_refl _)) | exact K.out _ (keepB v7 (by assumption) (Nat.le_refl _)))
      (first
        | (go_at_call_of 27 (Value.agg #[.bool s, .slice ao us.length ca, .slice bo vs.length cb]); go_split_ands; refine (Sign_q s ao bo us.length ca vs.length cb 12 p _ (RX.below (KB.out _ (by assumption)))).mono ?_; rintro e V1 ⟨rfl, v1⟩; rw [HU.out])
        | (go_at_call 28; go_split_ands; refine (rSign_q s ao bo us.length ca vs.length cb 12 p _ (RX.below (KB.out _ (by assumption)))).mono ?_; rintro e V2 ⟨rfl, v2⟩; rw [HU.out])
        | (go_at_call 29; go_split_ands; refine (rCompare_q s t ao bo po qo us.length ca vs.length cb us'.length cl vs'.length cj 12 p q _ (RX.below (KB.out _ (by assumption))) (RY.below (KB.out _ (by assumption))) (by omega)).mono ?_; rintro e V3 ⟨rfl, v3⟩; rw [HC.out])
        | (go_at_call 26; go_split_ands; refine (Compare_q t s po qo ao bo us'.length cl vs'.length cj us.length ca vs.length cb 12 q p _ (RY.below (KB.out _ (by assumption))) (RX.below (KB.out _ (by assumption))) (by omega)).mono ?_; rintro e V4 ⟨rfl, v4⟩; rw [HC2.out])
        | (go_at_call 30; go_split_ands; refine (Sub_q s t ao bo po qo us.length ca vs.length cb us'.length cl vs'.length cj 12 p q _ (RX.below (KB.out _ (by assumption))) (RY.below (KB.out _ (by assumption))) (by omega)).mono ?_; rintro e V5 ⟨s9, a9, n9, c9, o9, m9, d9, rfl, cq9, v5⟩)
        | (go_at_call_of 27 (Value.agg #[.bool s9, .slice a9 n9 c9, .slice o9 m9 d9]); go_split_ands; refine (Sign_q s9 a9 o9 n9 c9 m9 d9 (12 + 12 + 1) (p - q) _ cq9.rq).mono ?_; rintro e V6 ⟨rfl, v6⟩; rw [HD.out])
        | (go_at_call 25; go_split_ands; refine (awake2_any _ (hTab.below (KB.out _ (by assumption)))).mono ?_; rintro e V7 ⟨rfl, v7⟩; have BV : Below W5.heap.size W5 V7 := keepB v7 (by assumption) (Nat.le_refl _)))
    go_wp2_with fail
    go_ret
    exact ⟨rfl, KB.out _ BV⟩
end Go.Proofs.YtlgcflapgdkghaaDoor
