import Derived.Test.YtaefncebebonoaaDoorPair3
import Derived.Test.YtaefncebebonoaaDoorRat13
import Derived.Deep.CutRange
/- RationalMonotone: the walk. -/
namespace Go.Proofs.YtaefncebebonoaaDoor
open Go.RowKit

set_option maxHeartbeats 20000000 in
set_option maxRecDepth 100000 in
theorem RationalMonotone_any (s t : Bool) (ao bo po qo : Option Addr) (ca cb cl cj : Nat) (xs ys zs ts : List Nat) (i : Int) (w : World) (hx : Rd w ao ca xs) (hy : Rd w bo cb ys) (hz : Rd w po cl zs) (ht : Rd w qo cj ts) (hi0 : -9223372036854775808 ≤ i) (hi1 : i ≤ 9223372036854775807) (htab : Tab w) :
    Calls Tryd.prog 9 #[.agg #[.bool s, .slice ao xs.length ca, .slice bo ys.length cb], .agg #[.bool t, .slice po zs.length cl, .slice qo ts.length cj], .int .i64 i] w fun e w' => e = .returned (.bool true) ∧ Below w.heap.size w w' := by
  obtain ⟨j, hij⟩ : ∃ j : Nat, min (max i 0) 12 = (j : Int) := ⟨(min (max i 0) 12).toNat, by omega⟩
  have HI := Lib.hid hij
  have tp : 0 < 10 ^ j := Nat.pow_pos (by omega)
  obtain ⟨us, hu⟩ : ∃ us, us = xs.take 12 := ⟨_, rfl⟩
  obtain ⟨vs, hv⟩ : ∃ vs, vs = ys.take 12 := ⟨_, rfl⟩
  obtain ⟨us', hu'⟩ : ∃ us', us' = zs.take 12 := ⟨_, rfl⟩
  obtain ⟨vs', hv'⟩ : ∃ vs', vs' = ts.take 12 := ⟨_, rfl⟩
  have RX := cut_rq (s := s) hx hy hu hv
  have RY := cut_rq (s := t) hz ht hu' hv'
  obtain ⟨p, hp⟩ : ∃ p, p = rq s (val us) (dn (val vs)) := ⟨_, rfl⟩
  obtain ⟨q, hq⟩ : ∃ q, q = rq t (val us') (dn (val vs')) := ⟨_, rfl⟩
  rw [← hp] at RX
  rw [← hq] at RY
  clear hp hq hij
  have PX := RX.self
  have PY := RY.self
  obtain ⟨A, hA⟩ : ∃ A, A = rnd s (rn p) p.den (10 ^ j) := ⟨_, rfl⟩
  obtain ⟨B, hB⟩ : ∃ B, B = rnd t (rn q) q.den (10 ^ j) := ⟨_, rfl⟩
  have hmono : cq p q ≤ 0 → cq A B ≤ 0 := fun h => by
    rw [hA, hB]
    refine rnd_mono (den_pos p) (den_pos q) tp ?_
    rw [PX, PY]; exact h
  have hagain : rnd (rs A) (rn A) A.den (10 ^ j) = A := rnd_again tp A hA
  have RR : Hid (∀ w', RQ w' s ao us.length ca bo vs.length cb p 12 → Calls Tryd.prog 32 #[.agg #[.bool s, .slice ao us.length ca, .slice bo vs.length cb], .int .i64 i] w' (MakesQ A 312 w')) := fun w' h => by rw [hA]; exact Round_q s ao bo us.length ca vs.length cb 12 j i p w' h (by omega) HI.out
  have RS : Hid (∀ w', RQ w' t po us'.length cl qo vs'.length cj q 12 → Calls Tryd.prog 32 #[.agg #[.bool t, .slice po us'.length cl, .slice qo vs'.length cj], .int .i64 i] w' (MakesQ B 312 w')) := fun w' h => by rw [hB]; exact Round_q t po qo us'.length cl vs'.length cj 12 j i q w' h (by omega) HI.out
  have RF : Hid (∀ w', RQ w' s ao us.length ca bo vs.length cb p 12 → Calls Tryd.prog 38 #[.agg #[.bool s, .slice ao us.length ca, .slice bo vs.length cb], .int .i64 i] w' (MakesQ A 312 w')) := fun w' h => by rw [hA]; exact rRound_q s ao bo us.length ca vs.length cb 12 j i p w' h (by omega) HI.out
  have RA : Hid (∀ w' s5 a5 n5 c5 o5 m5 d5, CQ 0 w' s5 a5 n5 c5 o5 m5 d5 A 312 → Calls Tryd.prog 32 #[.agg #[.bool s5, .slice a5 n5 c5, .slice o5 m5 d5], .int .i64 i] w' (MakesQ A 612 w')) := fun w' s5 a5 n5 c5 o5 m5 d5 h => by
    have h1 := Round_q s5 a5 o5 n5 c5 m5 d5 312 j i A w' h.rq (by omega) HI.out
    rw [h.1, hagain] at h1
    rw [h.1]; exact h1
  have HM := Lib.hid hmono
  clear hmono hagain hA hB PX PY tp
  obtain ⟨W1, hW1⟩ : ∃ W1, W1 = (w.alloc (.cells #[.bool s, .slice ao xs.length ca, .slice bo ys.length cb] 25)).alloc (.cells #[.bool t, .slice po zs.length cl, .slice qo ts.length cj] 25) := ⟨_, rfl⟩
  have hs1 : W1.heap.size = w.heap.size + 1 + 1 := by rw [hW1]; simp
  have B0 : Below w.heap.size w W1 := by rw [hW1]; exact (below_new w _).alloc (by simp) _
  have x0 : W1.heap[w.heap.size]? = some (.cells #[.bool s, .slice ao xs.length ca, .slice bo ys.length cb] 25 (0, 0)) := by
    rw [hW1, Below.heap_alloc _ _ _ (by simp)]; exact heap_alloc_new w _
  have y0 : W1.heap[w.heap.size + 1]? = some (.cells #[.bool t, .slice po zs.length cl, .slice qo ts.length cj] 25 (0, 0)) := by
    rw [hW1]; have := heap_alloc_new (w.alloc (.cells #[.bool s, .slice ao xs.length ca, .slice bo ys.length cb] 25)) (.cells #[.bool t, .slice po zs.length cl, .slice qo ts.length cj] 25); rwa [World.size_alloc] at this
  have CX : Hid (∀ w', Below w.heap.size w w' → Calls Tryd.prog 10 #[.agg #[.bool s, .slice ao xs.length ca, .slice bo ys.length cb]] w' fun e w'' => e = .returned (.agg #[.bool s, .slice ao us.length ca, .slice bo vs.length cb]) ∧ Below w'.heap.size w' w'') := fun w' hb => CutRatio_any s ao bo ca cb xs ys us vs w' (hx.below hb) (hy.below hb) hu hv
  have CY : Hid (∀ w', Below w.heap.size w w' → Calls Tryd.prog 10 #[.agg #[.bool t, .slice po zs.length cl, .slice qo ts.length cj]] w' fun e w'' => e = .returned (.agg #[.bool t, .slice po us'.length cl, .slice qo vs'.length cj]) ∧ Below w'.heap.size w' w'') := fun w' hb => CutRatio_any t po qo cl cj zs ts us' vs' w' (hz.below hb) (ht.below hb) hu' hv'
  obtain ⟨⟨e0, e1, e2, _⟩, ⟨e3, e4, e5, _⟩⟩ := cells6 x0 y0
  have HS := Lib.hid hs1
  clear hx hy hz ht hu hv hu' hv' hs1
  go_enter Tryd.func9, Tryd.ntmps9
  go_wp2_with fail
  rw [← hW1]
  clear hW1
  go_cut [] from 9 to 45 (fun wx => TwoW w wx s t ao us.length ca bo vs.length cb po us'.length cl qo vs'.length cj p q 12)
  case first =>
    go_region_with (first
      | (go_at_call_of 10 (Value.agg #[.bool s, .slice ao xs.length ca, .slice bo ys.length cb]); refine (CX.out _ B0.drew).mono ?_; rintro e W2 ⟨rfl, b1⟩; have B2 : Below w.heap.size w W2 := B0.drew.trans (b1.mono B0.drew.size); have x2 := (b1.block w.heap.size (by show w.heap.size < W1.heap.size; rw [HS.out]; omega)).trans (show W1.drew.heap[w.heap.size]? = _ from x0); have y2 := (b1.block (w.heap.size + 1) (by show w.heap.size + 1 < W1.heap.size; rw [HS.out]; omega)).trans (show W1.drew.heap[w.heap.size + 1]? = _ from y0); obtain ⟨_, ⟨g3, g4, g5, _⟩⟩ := cells6 x2 y2)
      | (go_at_call_of 10 (Value.agg #[.bool t, .slice po zs.length cl, .slice qo ts.length cj]); refine (CY.out _ B2).mono ?_; rintro e W3 ⟨rfl, b2⟩; have B3 : Below w.heap.size w W3 := B2.trans (b2.mono B2.size); have hz2 : w.heap.size + 1 < W2.heap.size := (by obtain ⟨h, _⟩ := Array.getElem?_eq_some_iff.1 y2; exact h); have x3 := (b2.block w.heap.size (by omega)).trans x2; have y3 := (b2.block (w.heap.size + 1) hz2).trans y2; obtain ⟨⟨k0, k1, k2, k6, k7, k8⟩, ⟨k3, k4, k5, k9, k10, k11⟩⟩ := cells6 x3 y3))
    all_goals
      have HG : w.heap.size ≠ w.heap.size + 1 := by omega
      have x4 : ((((((W3.setCell ⟨w.heap.size, 0, none⟩ (.bool s)).setCell ⟨w.heap.size, 1, none⟩ (.slice ao us.length ca)).setCell ⟨w.heap.size, 2, none⟩ (.slice bo vs.length cb)).setCell ⟨w.heap.size + 1, 0, none⟩ (.bool t)).setCell ⟨w.heap.size + 1, 1, none⟩ (.slice po us'.length cl)).setCell ⟨w.heap.size + 1, 2, none⟩ (.slice qo vs'.length cj)).heap[w.heap.size]? = some (.cells #[.bool s, .slice ao us.length ca, .slice bo vs.length cb] 25 (0, 0)) := by
        rw [set3_off HG]; exact set3_at x3 _ _ _
      have y4 : ((((((W3.setCell ⟨w.heap.size, 0, none⟩ (.bool s)).setCell ⟨w.heap.size, 1, none⟩ (.slice ao us.length ca)).setCell ⟨w.heap.size, 2, none⟩ (.slice bo vs.length cb)).setCell ⟨w.heap.size + 1, 0, none⟩ (.bool t)).setCell ⟨w.heap.size + 1, 1, none⟩ (.slice po us'.length cl)).setCell ⟨w.heap.size + 1, 2, none⟩ (.slice qo vs'.length cj)).heap[w.heap.size + 1]? = some (.cells #[.bool t, .slice po us'.length cl, .slice qo vs'.length cj] 25 (0, 0)) :=
        set3_at ((set3_off HG.symm _ _ _).trans y3) _ _ _
      have B4 := below3 (below3 B3 (Nat.le_refl _) (.bool s) (.slice ao us.length ca) (.slice bo vs.length cb)) (show w.heap.size ≤ w.heap.size + 1 by omega) (.bool t) (.slice po us'.length cl) (.slice qo vs'.length cj)
      go_wp2_with fail
      go_meet
      exact ⟨x4, y4, RX.below B4, RY.below B4, B4⟩
  case rest =>
    have tw := hcut
    obtain ⟨x4, y4, r1, r2, B4⟩ := hcut
    obtain ⟨⟨h0, h1, h2, _⟩, ⟨h3, h4, h5, _⟩⟩ := cells6 x4 y4
    have TW := Lib.hid tw
    clear tw
    go_upto_region 2 with fail
    go_cut [7, 8] from 9 to 45 (fun v5 v6 wx => PairCut w s t ao us.length ca bo vs.length cb po us'.length cl qo vs'.length cj p q 12 A B 312 312 v5 v6 wx)
    case first =>
      refine wp_region_any (by kernel_rfl) ?_
      refine region_ssa [13, 14, 15, 16, 17, 18, 7, 8] (Below wc.heap.size wc) (Ext wc.heap.size) (PairS wc.heap.size (.agg #[.bool s, .slice ao us.length ca, .slice bo vs.length cb]) (.int .i64 i) (.agg #[.bool t, .slice po us'.length cl, .slice qo vs'.length cj]) (.int .i64 i) A B 312 312) (PairX 6 7 8 9 7 8 15 18) (fun f => rfl) (by kernel_rfl) (by kernel_rfl) ?_ ?_ ?_ ?_ ⟨⟨⟨⟨⟨⟨⟨⟨⟨⟨trivial, ?_⟩, ?_⟩, ?_⟩, ?_⟩, ?_⟩, ?_⟩, ?_⟩, ?_⟩, ?_⟩, ?_⟩ ?_
      · exact (Below.refl _ _).drew
      · intro f; exact ⟨(fun h => by cases h), (fun h => by cases h), (fun h => by cases h)⟩
      · intro i v w1 w2 _ h hE; exact PairS.ext i v w1 w2 h hE
      · intro w1 w2 hB hE; exact hB.trans hE.1
      · intro D f w1 hD hB hR hp hcl hX
        obtain ⟨⟨c0, c1, c2, _⟩, ⟨c3, c4, c5, _⟩⟩ := cells6 (TW.out.below hB).x (TW.out.below hB).y
        refine wpOp_step rfl (fun K hK => ?_)
        simp only [putAll, Act.put, List.setIfInBounds_toArray, List.set_cons_succ, List.set_cons_zero]
        go_simp
        exact hK _ _ ⟨(.agg #[.bool s, .slice ao us.length ca, .slice bo vs.length cb]), (by show _ = Act.put _ (some 13) _; simp only [putAll, Act.put, List.setIfInBounds_toArray, List.set_cons_succ, List.set_cons_zero, *]), rfl, Ext.refl _ _, hX⟩
      · intro D f w1 hD hB hR hp hcl hX
        obtain ⟨⟨c0, c1, c2, _⟩, ⟨c3, c4, c5, _⟩⟩ := cells6 (TW.out.below hB).x (TW.out.below hB).y
        refine wpOp_step rfl (fun K hK => ?_)
        simp only [putAll, Act.put, List.setIfInBounds_toArray, List.set_cons_succ, List.set_cons_zero]
        go_simp
        exact hK _ _ ⟨(.int .i64 i), (by show _ = Act.put _ (some 14) _; simp only [putAll, Act.put, List.setIfInBounds_toArray, List.set_cons_succ, List.set_cons_zero, *]), rfl, Ext.refl _ _, hX⟩
      · intro D f w1 hD hB hR hp hcl hX
        have e1 : f 13 = (.agg #[.bool s, .slice ao us.length ca, .slice bo vs.length cb]) := (hp_at hp 0 (by kernel_rfl)).2
        have e2 : f 14 = (.int .i64 i) := (hp_at hp 1 (by kernel_rfl)).2
        have r1 := (TW.out.below hB).p
        refine wpOp_step rfl (fun K hK => ?_)
        simp only [putAll, Act.put, List.setIfInBounds_toArray, List.set_cons_succ, List.set_cons_zero]
        go_simp
        refine (RR.out _ r1).mono ?_
        rintro e w2 hm
        obtain ⟨v, rfl, hq, hb⟩ := hm.isq
        go_simp
        exact hK _ _ ⟨v, (by show _ = Act.put _ (some 15) _; simp only [putAll, Act.put, List.setIfInBounds_toArray, List.set_cons_succ, List.set_cons_zero, *]), hq, Ext.of_below hb hB.size, ⟨hX.1, fun h8 => absurd h8 (no_of (D := D) (hcl 8) (by kernel_rfl) hD), fun h9 => (hX.2.2 h9).below hb⟩⟩
      · intro D f w1 hD hB hR hp hcl hX
        obtain ⟨⟨c0, c1, c2, _⟩, ⟨c3, c4, c5, _⟩⟩ := cells6 (TW.out.below hB).x (TW.out.below hB).y
        refine wpOp_step rfl (fun K hK => ?_)
        simp only [putAll, Act.put, List.setIfInBounds_toArray, List.set_cons_succ, List.set_cons_zero]
        go_simp
        exact hK _ _ ⟨(.agg #[.bool t, .slice po us'.length cl, .slice qo vs'.length cj]), (by show _ = Act.put _ (some 16) _; simp only [putAll, Act.put, List.setIfInBounds_toArray, List.set_cons_succ, List.set_cons_zero, *]), rfl, Ext.refl _ _, hX⟩
      · intro D f w1 hD hB hR hp hcl hX
        obtain ⟨⟨c0, c1, c2, _⟩, ⟨c3, c4, c5, _⟩⟩ := cells6 (TW.out.below hB).x (TW.out.below hB).y
        refine wpOp_step rfl (fun K hK => ?_)
        simp only [putAll, Act.put, List.setIfInBounds_toArray, List.set_cons_succ, List.set_cons_zero]
        go_simp
        exact hK _ _ ⟨(.int .i64 i), (by show _ = Act.put _ (some 17) _; simp only [putAll, Act.put, List.setIfInBounds_toArray, List.set_cons_succ, List.set_cons_zero, *]), rfl, Ext.refl _ _, hX⟩
      · intro D f w1 hD hB hR hp hcl hX
        have e1 : f 16 = (.agg #[.bool t, .slice po us'.length cl, .slice qo vs'.length cj]) := (hp_at hp 3 (by kernel_rfl)).2
        have e2 : f 17 = (.int .i64 i) := (hp_at hp 4 (by kernel_rfl)).2
        have r1 := (TW.out.below hB).q
        refine wpOp_step rfl (fun K hK => ?_)
        simp only [putAll, Act.put, List.setIfInBounds_toArray, List.set_cons_succ, List.set_cons_zero]
        go_simp
        refine (RS.out _ r1).mono ?_
        rintro e w2 hm
        obtain ⟨v, rfl, hq, hb⟩ := hm.isq
        go_simp
        exact hK _ _ ⟨v, (by show _ = Act.put _ (some 18) _; simp only [putAll, Act.put, List.setIfInBounds_toArray, List.set_cons_succ, List.set_cons_zero, *]), hq, Ext.of_below hb hB.size, ⟨hX.1, fun h8 => (hX.2.1 h8).below hb, fun h9 => absurd h9 (no_of (D := D) (hcl 9) (by kernel_rfl) hD)⟩⟩
      · intro D f w1 hD hB hR hp hcl hX
        refine wpOp_step rfl (fun K hK => ?_)
        simp only [putAll, Act.put, List.setIfInBounds_toArray, List.set_cons_succ, List.set_cons_zero]
        go_simp
        exact hK _ _ ⟨.pointer (some ⟨w1.heap.size, 0, none⟩), (by show _ = Act.put _ (some 7) _; simp only [putAll, Act.put, List.setIfInBounds_toArray, List.set_cons_succ, List.set_cons_zero, *]), ⟨w1.heap.size, rfl, hB.size, newB3 _⟩, Ext.of_below (below_new _ _) hB.size, ⟨fun _ h7 => (box_ne (hR 7 (by decide) h7)).symm, fun h8 => absurd h8 (no_of (D := D) (hcl 8) (by kernel_rfl) hD), fun h9 => (hX.2.2 h9).below (below_new _ _)⟩⟩
      · intro D f w1 hD hB hR hp hcl hX
        refine wpOp_step rfl (fun K hK => ?_)
        simp only [putAll, Act.put, List.setIfInBounds_toArray, List.set_cons_succ, List.set_cons_zero]
        go_simp
        exact hK _ _ ⟨.pointer (some ⟨w1.heap.size, 0, none⟩), (by show _ = Act.put _ (some 8) _; simp only [putAll, Act.put, List.setIfInBounds_toArray, List.set_cons_succ, List.set_cons_zero, *]), ⟨w1.heap.size, rfl, hB.size, newB3 _⟩, Ext.of_below (below_new _ _) hB.size, ⟨fun h6 _ => box_ne (hR 6 (by decide) h6), fun h8 => (hX.2.1 h8).below (below_new _ _), fun h9 => absurd h9 (no_of (D := D) (hcl 9) (by kernel_rfl) hD)⟩⟩
      · intro D f w1 hD hB hR hp hcl hX
        obtain ⟨g, eg, hg, hb⟩ := (hp_at hp 6 (by kernel_rfl)).2
        obtain ⟨s5, a5, n5, c5, o5, m5, d5, ev, hcq⟩ := (hp_at hp 2 (by kernel_rfl)).2
        replace eg : f 7 = _ := eg
        replace ev : f 15 = _ := ev
        have D6 := (hp_at hp 6 (by kernel_rfl)).1
        obtain ⟨u0, u1, u2, q0, q1, q2, z0, z1, z2⟩ := hb.facts
        refine wpOp_step rfl (fun K hK => ?_)
        simp only [putAll, Act.put, List.setIfInBounds_toArray, List.set_cons_succ, List.set_cons_zero]
        go_simp
        exact hK _ _ ⟨undef, (by show _ = Act.put _ (none) _; simp only [putAll, Act.put, List.setIfInBounds_toArray, List.set_cons_succ, List.set_cons_zero, *]), trivial, Ext.set3 hb hg _ _ _, ⟨hX.1, fun _ => by show Holds _ (f 7) (f 15); rw [eg, ev]; exact Holds.new hb _ _ _, fun h9 => (hX.2.2 h9).set3 (fun e6 => hX.1 D6 (hp_at (hcl 9 h9) 7 (by kernel_rfl)) (eg.trans e6.symm)) _ _ _⟩⟩
      · intro D f w1 hD hB hR hp hcl hX
        obtain ⟨g, eg, hg, hb⟩ := (hp_at hp 7 (by kernel_rfl)).2
        obtain ⟨s5, a5, n5, c5, o5, m5, d5, ev, hcq⟩ := (hp_at hp 5 (by kernel_rfl)).2
        replace eg : f 8 = _ := eg
        replace ev : f 18 = _ := ev
        have D6 := (hp_at hp 7 (by kernel_rfl)).1
        obtain ⟨u0, u1, u2, q0, q1, q2, z0, z1, z2⟩ := hb.facts
        refine wpOp_step rfl (fun K hK => ?_)
        simp only [putAll, Act.put, List.setIfInBounds_toArray, List.set_cons_succ, List.set_cons_zero]
        go_simp
        exact hK _ _ ⟨undef, (by show _ = Act.put _ (none) _; simp only [putAll, Act.put, List.setIfInBounds_toArray, List.set_cons_succ, List.set_cons_zero, *]), trivial, Ext.set3 hb hg _ _ _, ⟨hX.1, fun h8 => (hX.2.1 h8).set3 (fun e5 => hX.1 (hp_at (hcl 8 h8) 6 (by kernel_rfl)) D6 (e5.trans eg.symm)) _ _ _, fun _ => by show Holds _ (f 8) (f 18); rw [eg, ev]; exact Holds.new hb _ _ _⟩⟩
      · intro D f w1 hall hB hR hX
        simp only [putAll, Act.put, List.setIfInBounds_toArray, List.set_cons_succ, List.set_cons_zero]
        go_wp2_with fail
        go_meet
        exact pair_cut (TW.out.below hB) (hX.2.1 (hall 8 (by decide))) (hX.2.2 (hall 9 (by decide))) (hR 2 (by decide)) (hR 5 (by decide))
    case rest =>
      obtain ⟨tw2, g5, g6, s5, a5, n5, c5, o5, m5, d5, s6, a6, n6, c6, o6, m6, d6, rfl, rfl, e5, e6, cq5, cq6⟩ := hcut
      have K : Hid (∀ w', Below wc.heap.size wc w' → w'.cell? ⟨w.heap.size, 0, none⟩ = some (.bool s) ∧ w'.cell? ⟨w.heap.size, 1, none⟩ = some (.slice ao us.length ca) ∧ w'.cell? ⟨w.heap.size, 2, none⟩ = some (.slice bo vs.length cb) ∧ w'.cell? ⟨w.heap.size + 1, 0, none⟩ = some (.bool t) ∧ w'.cell? ⟨w.heap.size + 1, 1, none⟩ = some (.slice po us'.length cl) ∧ w'.cell? ⟨w.heap.size + 1, 2, none⟩ = some (.slice qo vs'.length cj) ∧ w'.cell? ⟨g5, 0, none⟩ = some (.bool s5) ∧ w'.cell? ⟨g5, 1, none⟩ = some (.slice a5 n5 c5) ∧ w'.cell? ⟨g5, 2, none⟩ = some (.slice o5 m5 d5) ∧ w'.cell? ⟨g6, 0, none⟩ = some (.bool s6) ∧ w'.cell? ⟨g6, 1, none⟩ = some (.slice a6 n6 c6) ∧ w'.cell? ⟨g6, 2, none⟩ = some (.slice o6 m6 d6) ∧ Below wc.heap.size wc w') := by
        intro w' hb
        obtain ⟨⟨j0, j1, j2, _⟩, ⟨j3, j4, j5, _⟩⟩ := cells6 (carry tw2.x hb) (carry tw2.y hb)
        obtain ⟨k0, k1, k2, _⟩ := at_block (carry e5 hb)
        obtain ⟨l0, l1, l2, _⟩ := at_block (carry e6 hb)
        exact ⟨j0, j1, j2, j3, j4, j5, k0, k1, k2, l0, l1, l2, hb⟩
      have KB : Hid (∀ w', Below wc.heap.size wc w' → Below w.heap.size w w') := fun w' hb => tw2.b.trans (hb.mono tw2.b.size)
      have K5 : Hid (∀ w', Below wc.heap.size wc w' → CQ 0 w' s5 a5 n5 c5 o5 m5 d5 A 312) := fun w' hb => cq5.below hb
      have K6 : Hid (∀ w', Below wc.heap.size wc w' → CQ 0 w' s6 a6 n6 c6 o6 m6 d6 B 312) := fun w' hb => cq6.below hb
      have hTab := htab
      clear tw2 e5 e6 cq5 cq6 x4 y4 r1 r2 B4 h0 h1 h2 h3 h4 h5 e0 e1 e2 e3 e4 TW CX CY HS x0 y0 B0
      obtain ⟨z, hz⟩ : ∃ z, cq p q = z := ⟨_, rfl⟩
      obtain ⟨z2, hz2⟩ : ∃ z, cq A B = z := ⟨_, rfl⟩
      have HZ := Lib.hid hz
      have HZ2 := Lib.hid hz2
      have hzz : z ≤ 0 → z2 ≤ 0 := by rw [← hz, ← hz2]; exact HM.out
      clear hz hz2 RR RS
      by_cases h : 0 < z
      · clear hzz
        go_wp2_with fail
        refine wp_region_held_drew (S := fun w' => Below wc.heap.size wc w') (by kernel_rfl) ((Below.refl _ _).drew) (fun hH => ?_)
        refine wpAnyH_take (i := 0) (v := (.agg #[.bool s, .slice ao us.length ca, .slice bo vs.length cb])) rfl (by kernel_rfl) (by kernel_rfl) (by kernel_rfl) (fun _ _ _ h => h) (Or.inl ⟨by kernel_rfl, ?_⟩) hH ?_
        · intro w1 hB
          obtain ⟨j0, j1, j2, j3, j4, j5, j6, j7, j8, j9, j10, j11, _⟩ := K.out _ hB
          go_simp
        change wpAnyH _ _ _ _ _ _ _ (Act.put _ (some 19) _) _
        try simp only [Act.put, List.setIfInBounds_toArray, List.set_cons_zero, List.set_cons_succ]
        refine wpAnyH_take (i := 1) (v := (.agg #[.bool t, .slice po us'.length cl, .slice qo vs'.length cj])) rfl (by kernel_rfl) (by kernel_rfl) (by kernel_rfl) (fun _ _ _ h => h) (Or.inl ⟨by kernel_rfl, ?_⟩) hH ?_
        · intro w1 hB
          obtain ⟨j0, j1, j2, j3, j4, j5, j6, j7, j8, j9, j10, j11, _⟩ := K.out _ hB
          go_simp
        change wpAnyH _ _ _ _ _ _ _ (Act.put _ (some 20) _) _
        try simp only [Act.put, List.setIfInBounds_toArray, List.set_cons_zero, List.set_cons_succ]
        refine wpAnyH_ready (rs := [2]) (by kernel_rfl) (by simp) ?_
        refine AllReadyH.cons rfl (fun K hK => ?_) AllReadyH.nil
        go_simp
        refine (rCompare_q s t ao bo po qo us.length ca vs.length cb us'.length cl vs'.length cj 12 p q _ (RX.below (KB.out _ hH)) (RY.below (KB.out _ hH)) (by omega)).mono ?_
        rintro e V2 ⟨rfl, v2⟩
        rw [HZ.out]
        try go_simp
        refine hK.out _ _ (keepB v2 hH (Nat.le_refl _)) (fun hH2 => ?_)
        clear hK K
        try simp only [Act.put, List.setIfInBounds_toArray, List.set_cons_zero, List.set_cons_succ]
        refine wpAnyH_take (i := 3) (v := (.bool true)) rfl (by kernel_rfl) (by kernel_rfl) (by kernel_rfl) (fun _ _ _ h => h) (Or.inl ⟨by kernel_rfl, ?_⟩) hH2 ?_
        · intro w1 hB
          go_simp
        change wpAnyH _ _ _ _ _ _ _ (Act.put _ (some 22) _) _
        try simp only [Act.put, List.setIfInBounds_toArray, List.set_cons_zero, List.set_cons_succ]
        refine wpAnyH_take (i := 4) (v := (.bool true)) rfl (by kernel_rfl) (by kernel_rfl) (by kernel_rfl) (fun _ _ _ h => h) (Or.inl ⟨by kernel_rfl, ?_⟩) hH2 ?_
        · intro w1 hB
          go_simp
        change wpAnyH _ _ _ _ _ _ _ (Act.put _ (some 23) _) _
        try simp only [Act.put, List.setIfInBounds_toArray, List.set_cons_zero, List.set_cons_succ]
        refine wpAnyH_take (i := 5) (v := undef) rfl (by kernel_rfl) (by kernel_rfl) (by kernel_rfl) (fun _ _ _ h => h) (Or.inr ⟨by kernel_rfl, rfl⟩) hH2 ?_
        change wpAnyH _ _ _ _ _ _ _ (Act.put _ (some 24) _) _
        try simp only [Act.put, List.setIfInBounds_toArray, List.set_cons_zero, List.set_cons_succ]
        refine wpAnyH_take (i := 6) (v := undef) rfl (by kernel_rfl) (by kernel_rfl) (by kernel_rfl) (fun _ _ _ h => h) (Or.inr ⟨by kernel_rfl, rfl⟩) hH2 ?_
        change wpAnyH _ _ _ _ _ _ _ (Act.put _ (some 25) _) _
        try simp only [Act.put, List.setIfInBounds_toArray, List.set_cons_zero, List.set_cons_succ]
        refine wpAnyH_take (i := 7) (v := undef) rfl (by kernel_rfl) (by kernel_rfl) (by kernel_rfl) (fun _ _ _ h => h) (Or.inr ⟨by kernel_rfl, rfl⟩) hH2 ?_
        change wpAnyH _ _ _ _ _ _ _ (Act.put _ (some 26) _) _
        try simp only [Act.put, List.setIfInBounds_toArray, List.set_cons_zero, List.set_cons_succ]
        refine wpAnyH_take (i := 8) (v := undef) rfl (by kernel_rfl) (by kernel_rfl) (by kernel_rfl) (fun _ _ _ h => h) (Or.inr ⟨by kernel_rfl, rfl⟩) hH2 ?_
        change wpAnyH _ _ _ _ _ _ _ (Act.put _ (some 27) _) _
        try simp only [Act.put, List.setIfInBounds_toArray, List.set_cons_zero, List.set_cons_succ]
        refine wpAnyH_take (i := 9) (v := (.bool true)) rfl (by kernel_rfl) (by kernel_rfl) (by kernel_rfl) (fun _ _ _ h => h) (Or.inl ⟨by kernel_rfl, ?_⟩) hH2 ?_
        · intro w1 hB
          go_simp
        change wpAnyH _ _ _ _ _ _ _ (Act.put _ (some 28) _) _
        try simp only [Act.put, List.setIfInBounds_toArray, List.set_cons_zero, List.set_cons_succ]
        refine wpAnyH_take (i := 10) (v := (.bool true)) rfl (by kernel_rfl) (by kernel_rfl) (by kernel_rfl) (fun _ _ _ h => h) (Or.inl ⟨by kernel_rfl, ?_⟩) hH2 ?_
        · intro w1 hB
          go_simp
        change wpAnyH _ _ _ _ _ _ _ (Act.put _ (some 29) _) _
        try simp only [Act.put, List.setIfInBounds_toArray, List.set_cons_zero, List.set_cons_succ]
        refine wpAnyH_take (i := 11) (v := (.agg #[.bool s5, .slice a5 n5 c5, .slice o5 m5 d5])) rfl (by kernel_rfl) (by kernel_rfl) (by kernel_rfl) (fun _ _ _ h => h) (Or.inl ⟨by kernel_rfl, ?_⟩) hH2 ?_
        · intro w1 hB
          obtain ⟨j0, j1, j2, j3, j4, j5, j6, j7, j8, j9, j10, j11, _⟩ := K.out _ hB
          go_simp
        change wpAnyH _ _ _ _ _ _ _ (Act.put _ (some 30) _) _
        try simp only [Act.put, List.setIfInBounds_toArray, List.set_cons_zero, List.set_cons_succ]
        refine wpAnyH_take (i := 12) (v := (.int .i64 i)) rfl (by kernel_rfl) (by kernel_rfl) (by kernel_rfl) (fun _ _ _ h => h) (Or.inl ⟨by kernel_rfl, ?_⟩) hH2 ?_
        · intro w1 hB
          go_simp
        change wpAnyH _ _ _ _ _ _ _ (Act.put _ (some 31) _) _
        try simp only [Act.put, List.setIfInBounds_toArray, List.set_cons_zero, List.set_cons_succ]
        refine wpAnyH_take (i := 14) (v := (.agg #[.bool s5, .slice a5 n5 c5, .slice o5 m5 d5])) rfl (by kernel_rfl) (by kernel_rfl) (by kernel_rfl) (fun _ _ _ h => h) (Or.inl ⟨by kernel_rfl, ?_⟩) hH2 ?_
        · intro w1 hB
          obtain ⟨j0, j1, j2, j3, j4, j5, j6, j7, j8, j9, j10, j11, _⟩ := K.out _ hB
          go_simp
        change wpAnyH _ _ _ _ _ _ _ (Act.put _ (some 33) _) _
        try simp only [Act.put, List.setIfInBounds_toArray, List.set_cons_zero, List.set_cons_succ]
        refine wpAnyH_ready (rs := [13]) (by kernel_rfl) (by simp) ?_
        refine AllReadyH.cons rfl (fun K hK => ?_) AllReadyH.nil
        go_simp
        refine (RA.out _ s5 a5 n5 c5 o5 m5 d5 (K5.out _ hH2)).mono ?_
        rintro e V13 ⟨s3, a3, n3, c3, o3, m3, d3, rfl, cr3, v13⟩
        try go_simp
        refine hK.out _ _ (keepB v13 hH2 (Nat.le_refl _)) (fun hH13 => ?_)
        clear hK K
        try simp only [Act.put, List.setIfInBounds_toArray, List.set_cons_zero, List.set_cons_succ]
        refine wpAnyH_ready (rs := [15]) (by kernel_rfl) (by simp) ?_
        refine AllReadyH.cons rfl (fun K hK => ?_) AllReadyH.nil
        go_simp
        refine (Same_q cr3 (K5.out _ hH13) rfl).mono ?_
        rintro e V15 ⟨rfl, v15⟩
        try go_simp
        refine hK.out _ _ (keepB v15 hH13 (Nat.le_refl _)) (fun hH15 => ?_)
        clear hK K
        try simp only [Act.put, List.setIfInBounds_toArray, List.set_cons_zero, List.set_cons_succ]
        refine wpAnyH_take (i := 16) (v := (.bool true)) rfl (by kernel_rfl) (by kernel_rfl) (by kernel_rfl) (fun _ _ _ h => h) (Or.inl ⟨by kernel_rfl, ?_⟩) hH15 ?_
        · intro w1 hB
          go_simp
        change wpAnyH _ _ _ _ _ _ _ (Act.put _ (some 35) _) _
        try simp only [Act.put, List.setIfInBounds_toArray, List.set_cons_zero, List.set_cons_succ]
        refine wpAnyH_take (i := 17) (v := (.bool true)) rfl (by kernel_rfl) (by kernel_rfl) (by kernel_rfl) (fun _ _ _ h => h) (Or.inl ⟨by kernel_rfl, ?_⟩) hH15 ?_
        · intro w1 hB
          go_simp
        change wpAnyH _ _ _ _ _ _ _ (Act.put _ (some 36) _) _
        try simp only [Act.put, List.setIfInBounds_toArray, List.set_cons_zero, List.set_cons_succ]
        refine wpAnyH_take (i := 18) (v := (.agg #[.bool s5, .slice a5 n5 c5, .slice o5 m5 d5])) rfl (by kernel_rfl) (by kernel_rfl) (by kernel_rfl) (fun _ _ _ h => h) (Or.inl ⟨by kernel_rfl, ?_⟩) hH15 ?_
        · intro w1 hB
          obtain ⟨j0, j1, j2, j3, j4, j5, j6, j7, j8, j9, j10, j11, _⟩ := K.out _ hB
          go_simp
        change wpAnyH _ _ _ _ _ _ _ (Act.put _ (some 37) _) _
        try simp only [Act.put, List.setIfInBounds_toArray, List.set_cons_zero, List.set_cons_succ]
        refine wpAnyH_take (i := 19) (v := (.agg #[.bool s, .slice ao us.length ca, .slice bo vs.length cb])) rfl (by kernel_rfl) (by kernel_rfl) (by kernel_rfl) (fun _ _ _ h => h) (Or.inl ⟨by kernel_rfl, ?_⟩) hH15 ?_
        · intro w1 hB
          obtain ⟨j0, j1, j2, j3, j4, j5, j6, j7, j8, j9, j10, j11, _⟩ := K.out _ hB
          go_simp
        change wpAnyH _ _ _ _ _ _ _ (Act.put _ (some 38) _) _
        try simp only [Act.put, List.setIfInBounds_toArray, List.set_cons_zero, List.set_cons_succ]
        refine wpAnyH_take (i := 20) (v := (.int .i64 i)) rfl (by kernel_rfl) (by kernel_rfl) (by kernel_rfl) (fun _ _ _ h => h) (Or.inl ⟨by kernel_rfl, ?_⟩) hH15 ?_
        · intro w1 hB
          go_simp
        change wpAnyH _ _ _ _ _ _ _ (Act.put _ (some 39) _) _
        try simp only [Act.put, List.setIfInBounds_toArray, List.set_cons_zero, List.set_cons_succ]
        refine wpAnyH_ready (rs := [21]) (by kernel_rfl) (by simp) ?_
        refine AllReadyH.cons rfl (fun K hK => ?_) AllReadyH.nil
        go_simp
        refine (RF.out _ (RX.below (KB.out _ hH15))).mono ?_
        rintro e V21 ⟨s4, a4, n4, c4, o4, m4, d4, rfl, cr4, v21⟩
        try go_simp
        refine hK.out _ _ (keepB v21 hH15 (Nat.le_refl _)) (fun hH21 => ?_)
        clear hK K
        try simp only [Act.put, List.setIfInBounds_toArray, List.set_cons_zero, List.set_cons_succ]
        refine wpAnyH_ready (rs := [22]) (by kernel_rfl) (by simp) ?_
        refine AllReadyH.cons rfl (fun K hK => ?_) AllReadyH.nil
        go_simp
        refine (Same_q (K5.out _ hH21) cr4 rfl).mono ?_
        rintro e V22 ⟨rfl, v22⟩
        try go_simp
        refine hK.out _ _ (keepB v22 hH21 (Nat.le_refl _)) (fun hH22 => ?_)
        clear hK K
        try simp only [Act.put, List.setIfInBounds_toArray, List.set_cons_zero, List.set_cons_succ]
        refine wpAnyH_take (i := 23) (v := (.bool true)) rfl (by kernel_rfl) (by kernel_rfl) (by kernel_rfl) (fun _ _ _ h => h) (Or.inl ⟨by kernel_rfl, ?_⟩) hH22 ?_
        · intro w1 hB
          go_simp
        change wpAnyH _ _ _ _ _ _ _ (Act.put _ (some 42) _) _
        try simp only [Act.put, List.setIfInBounds_toArray, List.set_cons_zero, List.set_cons_succ]
        refine wpAnyH_take (i := 24) (v := (.bool true)) rfl (by kernel_rfl) (by kernel_rfl) (by kernel_rfl) (fun _ _ _ h => h) (Or.inl ⟨by kernel_rfl, ?_⟩) hH22 ?_
        · intro w1 hB
          go_simp
        change wpAnyH _ _ _ _ _ _ _ (Act.put _ (some 43) _) _
        try simp only [Act.put, List.setIfInBounds_toArray, List.set_cons_zero, List.set_cons_succ]
        refine wpAnyH_ready (rs := [25]) (by kernel_rfl) (by simp) ?_
        refine AllReadyH.cons rfl (fun K hK => ?_) AllReadyH.nil
        go_simp
        refine (awake2_any _ (hTab.below (KB.out _ hH22))).mono ?_
        rintro e V25 ⟨rfl, v25⟩
        try go_simp
        refine hK.out _ _ (keepB v25 hH22 (Nat.le_refl _)) (fun hH25 => ?_)
        clear hK K
        try simp only [Act.put, List.setIfInBounds_toArray, List.set_cons_zero, List.set_cons_succ]
        refine wpAnyH_take (i := 26) (v := (.bool true)) rfl (by kernel_rfl) (by kernel_rfl) (by kernel_rfl) (fun _ _ _ h => h) (Or.inl ⟨by kernel_rfl, ?_⟩) hH25 ?_
        · intro w1 hB
          go_simp
        change wpAnyH _ _ _ _ _ _ _ (Act.put _ (some 45) _) _
        try simp only [Act.put, List.setIfInBounds_toArray, List.set_cons_zero, List.set_cons_succ]
        refine wpAnyH_take (i := 27) (v := (.bool true)) rfl (by kernel_rfl) (by kernel_rfl) (by kernel_rfl) (fun _ _ _ h => h) (Or.inl ⟨by kernel_rfl, ?_⟩) hH25 ?_
        · intro w1 hB
          go_simp
        change wpAnyH _ _ _ _ _ _ _ (Act.put _ (some 6) _) _
        try simp only [Act.put, List.setIfInBounds_toArray, List.set_cons_zero, List.set_cons_succ]
        refine wpAnyH_done (by kernel_rfl) ?_ _
        have BV := KB.out _ hH25
        go_wp2_with fail
        go_ret
        exact ⟨rfl, BV⟩
      · have h2 : z2 ≤ 0 := hzz (by omega)
        have h3 : decide (0 < z) = false := decide_eq_false h
        clear hzz h
        go_wp2_with fail
        go_region_held3 (fun w' => w'.cell? ⟨w.heap.size, 0, none⟩ = some (.bool s) ∧ w'.cell? ⟨w.heap.size, 1, none⟩ = some (.slice ao us.length ca) ∧ w'.cell? ⟨w.heap.size, 2, none⟩ = some (.slice bo vs.length cb) ∧ w'.cell? ⟨w.heap.size + 1, 0, none⟩ = some (.bool t) ∧ w'.cell? ⟨w.heap.size + 1, 1, none⟩ = some (.slice po us'.length cl) ∧ w'.cell? ⟨w.heap.size + 1, 2, none⟩ = some (.slice qo vs'.length cj) ∧ w'.cell? ⟨g5, 0, none⟩ = some (.bool s5) ∧ w'.cell? ⟨g5, 1, none⟩ = some (.slice a5 n5 c5) ∧ w'.cell? ⟨g5, 2, none⟩ = some (.slice o5 m5 d5) ∧ w'.cell? ⟨g6, 0, none⟩ = some (.bool s6) ∧ w'.cell? ⟨g6, 1, none⟩ = some (.slice a6 n6 c6) ∧ w'.cell? ⟨g6, 2, none⟩ = some (.slice o6 m6 d6) ∧ Below wc.heap.size wc w')
          (first | exact K.out _ (Below.refl _ _).drew | exact K.out _ (keepB v1 (by assumption) (Nat.le_refl _)) | exact K.out _ (keepB v2 (by assumption) (Nat.le_refl _)) | exact K.out _ (keepB v3 (by assumption) (Nat.le_refl _)) | exact K.out _ (keepB v4 (by assumption) (Nat.le_refl _)) | exact K.out _ (keepB v5 (by assumption) (Nat.le_refl _)) | exact K.out _ (keepB v6 (by assumption) (Nat.le_refl _)) | exact K.out _ (keepB v7 (by assumption) (Nat.le_refl _)))
          (first
            | (go_at_call_of 35 (Value.agg #[.bool s, .slice ao us.length ca, .slice bo vs.length cb]); go_split_ands; refine (rCompare_q s t ao bo po qo us.length ca vs.length cb us'.length cl vs'.length cj 12 p q _ (RX.below (KB.out _ (by assumption))) (RY.below (KB.out _ (by assumption))) (by omega)).mono ?_; rintro e V1 ⟨rfl, v1⟩; rw [HZ.out])
            | (go_at_call_of 35 (Value.agg #[.bool s5, .slice a5 n5 c5, .slice o5 m5 d5]); go_split_ands; refine (rCompare_q s5 s6 a5 o5 a6 o6 n5 c5 m5 d5 n6 c6 m6 d6 312 A B _ (K5.out _ (by assumption)).rq (K6.out _ (by assumption)).rq (by omega)).mono ?_; rintro e V2 ⟨rfl, v2⟩; rw [HZ2.out])
            | (go_at_call 32; go_split_ands; refine (RA.out _ s5 a5 n5 c5 o5 m5 d5 (K5.out _ (by assumption))).mono ?_; rintro e V3 ⟨s3, a3, n3, c3, o3, m3, d3, rfl, cr3, v3⟩)
            | (go_at_call_of 13 (Value.agg #[.bool s3, .slice a3 n3 c3, .slice o3 m3 d3]); go_split_ands; refine (Same_q cr3 (K5.out _ (by assumption)) rfl).mono ?_; rintro e V4 ⟨rfl, v4⟩)
            | (go_at_call 38; go_split_ands; refine (RF.out _ (RX.below (KB.out _ (by assumption)))).mono ?_; rintro e V5 ⟨s4, a4, n4, c4, o4, m4, d4, rfl, cr4, v5⟩)
            | (go_at_call_of 13 (Value.agg #[.bool s4, .slice a4 n4 c4, .slice o4 m4 d4]); go_split_ands; refine (Same_q (K5.out _ (by assumption)) cr4 rfl).mono ?_; rintro e V6 ⟨rfl, v6⟩)
            | (go_at_call 19; go_split_ands; refine (awake2_any _ (hTab.below (KB.out _ (by assumption)))).mono ?_; rintro e V7 ⟨rfl, v7⟩; have BV : Below wc.heap.size wc V7 := keepB v7 (by assumption) (Nat.le_refl _)))
        go_wp2_with fail
        go_ret
        exact ⟨rfl, KB.out _ BV⟩
end Go.Proofs.YtaefncebebonoaaDoor
