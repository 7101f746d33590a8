import Derived.Test.YtaefncebebonoaaDoorPows2
import Derived.Deep.CutRange
/- RationalInverse: the walk. -/
namespace Go.Proofs.YtaefncebebonoaaDoor
open Go.RowKit

set_option maxHeartbeats 20000000 in
set_option maxRecDepth 100000 in
theorem RationalInverse_any (s : Bool) (ao bo : Option Addr) (ca cb : Nat) (xs ys : List Nat) (i : Int) (w : World) (hx : Rd w ao ca xs) (hy : Rd w bo cb ys) (_ : -9223372036854775808 ≤ i) (_ : i ≤ 9223372036854775807) (htab : Tab w) :
    Calls Tryd.prog 7 #[.agg #[.bool s, .slice ao xs.length ca, .slice bo ys.length cb], .int .i64 i] w fun e w' => e = .returned (.bool true) ∧ Below w.heap.size w w' := by
  obtain ⟨us, hu⟩ : ∃ us, us = xs.take 1 := ⟨_, rfl⟩
  obtain ⟨vs, hv⟩ : ∃ vs, vs = ys.take 1 := ⟨_, rfl⟩
  have RX := small_rq (s := s) hx hy hu hv
  obtain ⟨n1, hn1⟩ : ∃ n, n = us.length := ⟨_, rfl⟩
  obtain ⟨m1, hm1⟩ : ∃ n, n = vs.length := ⟨_, rfl⟩
  have CX : Hid (∀ w', Below w.heap.size w w' → Calls Tryd.prog 27 #[.agg #[.bool s, .slice ao xs.length ca, .slice bo ys.length cb]] w' fun e w'' => e = .returned (.agg #[.bool s, .slice ao n1 ca, .slice bo m1 cb]) ∧ Below w'.heap.size w' w'') := fun w' hb => by rw [hn1, hm1]; exact Small_any s ao bo ca cb xs ys us vs w' (hx.below hb) (hy.below hb) hu hv
  rw [← hn1, ← hm1] at RX
  obtain ⟨p, hp⟩ : ∃ p, p = rq s (val us) (dn (val vs)) := ⟨_, rfl⟩
  rw [← hp] at RX
  have B0 := below_new w (.cells #[.bool s, .slice ao xs.length ca, .slice bo ys.length cb] 25)
  have x0 := heap_alloc_new w (.cells #[.bool s, .slice ao xs.length ca, .slice bo ys.length cb] 25)
  clear hx hy hu hv hn1 hm1 hp
  go_enter Tryd.func7, Tryd.ntmps7
  go_wp2_with fail
  refine (CX.out _ B0).mono ?_; rintro e W2 ⟨rfl, b2⟩
  have x2 := carry x0 b2
  have B2 := B0.trans (b2.mono B0.size)
  obtain ⟨c0, c1, c2, z0, z1, z2⟩ := at_block x2
  have x3 := set3_at x2 (.bool s) (.slice ao n1 ca) (.slice bo m1 cb)
  have B3 := below3 B2 (Nat.le_refl _) (.bool s) (.slice ao n1 ca) (.slice bo m1 cb)
  obtain ⟨W3, hW3⟩ : ∃ W3, W3 = ((W2.setCell ⟨w.heap.size, 0, none⟩ (.bool s)).setCell ⟨w.heap.size, 1, none⟩ (.slice ao n1 ca)).setCell ⟨w.heap.size, 2, none⟩ (.slice bo m1 cb) := ⟨_, rfl⟩
  rw [← hW3] at x3 B3
  clear x0 x2 b2 B0 B2 CX
  go_upto_region 2 with fail
  rw [← hW3]
  clear hW3 c0 c1 c2 z0 z1 z2
  obtain ⟨k0, k1, k2, _⟩ := at_block x3
  go_wp2_with fail
  refine (Fold_any i 40 (by omega) (by omega) _ 40 rfl).mono ?_; rintro e w' ⟨j, rfl, hj, rfl⟩
  have hj1 : (0 : Int) ≤ (j : Int) := by omega
  have hj2 : (j : Int) ≤ 40 := by omega
  go_wp2_with fail
  refine (rSign_q s ao bo n1 ca m1 cb 2 p _ (RX.below B3)).mono ?_; rintro e W4 ⟨rfl, b4⟩
  have B4 := B3.trans (b4.mono B3.size)
  have x4 := carry x3 b4
  clear k0 k1 k2 b4 x3 B3
  by_cases hp0 : p = 0
  · rw [sgn_zero_iff.2 hp0]
    go_wp2_with fail
    refine (awake2_any _ (htab.below B4)).mono ?_; rintro e W5 ⟨rfl, b5⟩
    go_wp2_with fail
    go_ret
    exact ⟨rfl, B4.trans (b5.mono B4.size)⟩
  · obtain ⟨u, hu⟩ : ∃ u, u = sgn p := ⟨_, rfl⟩
    have hne : ((u : Int) == 0) = false := by rw [beq_eq_false_iff_ne]; intro e; exact hp0 (sgn_zero_iff.1 (hu.symm.trans e))
    rw [← hu]
    have PW : Hid (∀ w', RQ w' s ao n1 ca bo m1 cb p 2 → Calls Tryd.prog 29 #[.agg #[.bool s, .slice ao n1 ca, .slice bo m1 cb], .int .i64 (j : Int)] w' (MakesE (powE p j false) 200 w')) := fun w' h => Power_any s ao bo n1 ca m1 cb j false _ p w' h hp0 (by omega) (by simp)
    have PV : Hid (∀ w', RQ w' s ao n1 ca bo m1 cb p 2 → Calls Tryd.prog 29 #[.agg #[.bool s, .slice ao n1 ca, .slice bo m1 cb], .int .i64 (-(j : Int))] w' (MakesE (powE p j true) 200 w')) := fun w' h => Power_any s ao bo n1 ca m1 cb j true _ p w' h hp0 (by omega) (by simp)
    have HM : Hid (powE p j false * powE p j true = 1) := powE_mul hp0 j false
    obtain ⟨P, hP⟩ : ∃ P, P = powE p j false := ⟨_, rfl⟩
    obtain ⟨P', hP'⟩ : ∃ P, P = powE p j true := ⟨_, rfl⟩
    rw [← hP] at PW HM
    rw [← hP'] at PV HM
    have hwn : IntKind.i64.wrap (-(j : Int)) = -(j : Int) := IntWalk.i64_in _ (by omega)
    clear hu hp0 hP hP' hj
    obtain ⟨k0, k1, k2, _⟩ := at_block x4
    go_wp2_with fail
    refine (PW.out _ (RX.below B4)).mono ?_; rintro e W5 ⟨s5, a5, n5, c5, o5, m5, d5, rfl, cq5, b5⟩
    have n5x := below_new W5 (.cells #[.bool s5, .slice a5 n5 c5, .slice o5 m5 d5] 25)
    have B6 := (B4.trans (b5.mono B4.size)).trans (n5x.mono (B4.trans (b5.mono B4.size)).size)
    have x6 := carry (carry x4 b5) n5x
    have y6 := heap_alloc_new W5 (.cells #[.bool s5, .slice a5 n5 c5, .slice o5 m5 d5] 25)
    have q6 := (cq5.below n5x).mono (Nat.zero_le _)
    obtain ⟨W6, hW6⟩ : ∃ W6, W6 = W5.alloc (.cells #[.bool s5, .slice a5 n5 c5, .slice o5 m5 d5] 25) := ⟨_, rfl⟩
    rw [← hW6] at B6 x6 y6 q6
    clear k0 k1 k2 n5x cq5 b5 x4 B4 PW
    go_upto_region 6 with fail
    rw [← hW6]
    obtain ⟨ga, hga⟩ : ∃ g, g = W5.heap.size := ⟨_, rfl⟩
    rw [← hga] at y6 ⊢
    clear hW6 hga
    obtain ⟨k0, k1, k2, _⟩ := at_block x6
    go_wp2_with fail
    refine (PV.out _ (RX.below B6)).mono ?_; rintro e W7 ⟨s7, a7, n7, c7, o7, m7, d7, rfl, cq7, b7⟩
    have n7x := below_new W7 (.cells #[.bool s7, .slice a7 n7 c7, .slice o7 m7 d7] 25)
    have B8 := (B6.trans (b7.mono B6.size)).trans (n7x.mono (B6.trans (b7.mono B6.size)).size)
    have y8 := carry (carry y6 b7) n7x
    have q8 := (q6.below b7).below n7x
    have v8 := heap_alloc_new W7 (.cells #[.bool s7, .slice a7 n7 c7, .slice o7 m7 d7] 25)
    have r8 := (cq7.below n7x).mono (Nat.zero_le _)
    obtain ⟨W8, hW8⟩ : ∃ W8, W8 = W7.alloc (.cells #[.bool s7, .slice a7 n7 c7, .slice o7 m7 d7] 25) := ⟨_, rfl⟩
    rw [← hW8] at B8 y8 q8 v8 r8
    clear k0 k1 k2 n7x cq7 b7 x6 B6 y6 q6 PV
    go_upto_region 7 with fail
    rw [← hW8]
    obtain ⟨gb, hgb⟩ : ∃ g, g = W7.heap.size := ⟨_, rfl⟩
    rw [← hgb] at v8 ⊢
    clear hW8 hgb
    obtain ⟨k0, k1, k2, _⟩ := at_block y8
    obtain ⟨k3, k4, k5, _⟩ := at_block v8
    go_wp2_with fail
    refine (Mul_q s5 s7 a5 o5 a7 o7 n5 c5 m5 d5 n7 c7 m7 d7 200 P P' _ q8.rq r8.rq (by omega)).mono ?_; rintro e W9 ⟨s9, a9, n9, c9, o9, m9, d9, rfl, cq9, b9⟩
    have B9 := B8.trans (b9.mono B8.size)
    clear k0 k1 k2 k3 k4 k5
    go_wp2_with fail
    refine (rOne_q _).mono ?_; rintro e W10 ⟨s10, a10, n10, c10, o10, m10, d10, rfl, cq10, b10⟩
    have B10 := B9.trans (b10.mono B9.size)
    go_wp2_with fail
    refine (Same_q (cq9.below b10) cq10 HM.out).mono ?_; rintro e W11 ⟨rfl, b11⟩
    have B11 := B10.trans (b11.mono B10.size)
    go_wp2_with fail
    refine (awake2_any _ (htab.below B11)).mono ?_; rintro e W12 ⟨rfl, b12⟩
    go_wp2_with fail
    go_ret
    exact ⟨rfl, B11.trans (b12.mono B11.size)⟩
end Go.Proofs.YtaefncebebonoaaDoor
