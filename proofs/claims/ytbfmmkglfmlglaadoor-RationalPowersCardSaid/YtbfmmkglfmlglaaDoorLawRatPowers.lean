import Derived.Test.YtbfmmkglfmlglaaDoorPowsB
import Derived.Test.YtbfmmkglfmlglaaDoorAwake2
/- RationalPowers: the walk. -/
namespace Go.Proofs.YtbfmmkglfmlglaaDoor
open Go.RowKit

set_option maxHeartbeats 20000000 in
set_option maxRecDepth 100000 in
theorem RationalPowers_any (s : Bool) (ao bo : Option Addr) (ca cb : Nat) (xs ys : List Nat) (i : Int) (w : World) (hx : Rd w ao ca xs) (hy : Rd w bo cb ys) (hi0 : -9223372036854775808 ≤ i) (hi1 : i ≤ 9223372036854775807) (htab : Tab w) :
    Calls Tryd.prog 4 #[.agg #[.bool s, .slice ao xs.length ca, .slice bo ys.length cb], .int .i64 i] w fun e w' => e = .returned (.bool true) ∧ Below w.heap.size w w' := by
  obtain ⟨us, hu⟩ : ∃ us, us = xs.take 1 := ⟨_, rfl⟩
  obtain ⟨vs, hv⟩ : ∃ vs, vs = ys.take 1 := ⟨_, rfl⟩
  have RX := small_rq (s := s) hx hy hu hv
  obtain ⟨n1, hn1⟩ : ∃ n, n = us.length := ⟨_, rfl⟩
  obtain ⟨m1, hm1⟩ : ∃ n, n = vs.length := ⟨_, rfl⟩
  have CX : Hid (∀ w', Below w.heap.size w w' → Calls Tryd.prog 10 #[.agg #[.bool s, .slice ao xs.length ca, .slice bo ys.length cb]] w' fun e w'' => e = .returned (.agg #[.bool s, .slice ao n1 ca, .slice bo m1 cb]) ∧ Below w'.heap.size w' w'') := fun w' hb => by rw [hn1, hm1]; exact Small_any s ao bo ca cb xs ys us vs w' (hx.below hb) (hy.below hb) hu hv
  rw [← hn1, ← hm1] at RX
  obtain ⟨p, hp⟩ : ∃ p, p = rq s (val us) (dn (val vs)) := ⟨_, rfl⟩
  rw [← hp] at RX
  have B0 := below_new w (.cells #[.bool s, .slice ao xs.length ca, .slice bo ys.length cb] 27)
  have x0 := heap_alloc_new w (.cells #[.bool s, .slice ao xs.length ca, .slice bo ys.length cb] 27)
  have HTab : Hid (∀ w', Below w.heap.size w w' → Tab w') := fun w' b => htab.below b
  have HRX : Hid (∀ w', Below w.heap.size w w' → RQ w' s ao n1 ca bo m1 cb p 2) := fun w' b => RX.below b
  have HI0 := Lib.hid hi0
  have HI1 := Lib.hid hi1
  clear hx hy hu hv hn1 hm1 hp htab RX
  go_enter Tryd.func4, Tryd.ntmps4
  go_wp2_with fail
  refine (CX.out _ B0).mono ?_; rintro e W2 ⟨rfl, b2⟩
  have x2 := carry x0 b2
  have B2 := B0.trans (b2.mono B0.size)
  obtain ⟨c0, c1, c2, z0, z1, z2⟩ := at_block x2
  have x3 := set3_at x2 (.bool s) (.slice ao n1 ca) (.slice bo m1 cb)
  have B3 := below3 B2 (Nat.le_refl _) (.bool s) (.slice ao n1 ca) (.slice bo m1 cb)
  obtain ⟨W3, hW3⟩ : ∃ W3, W3 = ((W2.setCell ⟨w.heap.size, 0, none⟩ (.bool s)).setCell ⟨w.heap.size, 1, none⟩ (.slice ao n1 ca)).setCell ⟨w.heap.size, 2, none⟩ (.slice bo m1 cb) := ⟨_, rfl⟩
  rw [← hW3] at x3 B3
  clear x0 x2 b2 B0 B2 CX
  go_upto_region 2 with fail
  rw [← hW3]
  clear hW3 c0 c1 c2 z0 z1 z2
  go_wp2_with fail
  refine (Fold_any i 61 (by omega) (by omega) _ 61 rfl).mono ?_; rintro e w' ⟨j, rfl, hj, rfl⟩
  obtain ⟨C, hC⟩ : ∃ C : Int, (j : Int) - 30 = C := ⟨_, rfl⟩
  have C0 : -9223372036854775808 ≤ C := by omega
  have C1 : C ≤ 9223372036854775807 := by omega
  have B4 := B3.trans ((below_new W3 (.cells #[.int .i64 i, .int .i64 C] 3)).mono B3.size)
  have x4 := carry x3 (below_new W3 (.cells #[.int .i64 i, .int .i64 C] 3))
  have g0 : (W3.alloc (.cells #[.int .i64 i, .int .i64 C] 3)).cell? ⟨W3.heap.size, 0, none⟩ = some (.int .i64 i) := World.cell?_alloc_mark W3 _ _ (0, 0) 0
  have g1 : (W3.alloc (.cells #[.int .i64 i, .int .i64 C] 3)).cell? ⟨W3.heap.size, 1, none⟩ = some (.int .i64 C) := World.cell?_alloc_mark W3 _ _ (0, 0) 1
  have hw3 : w.heap.size < W3.heap.size := (Array.getElem?_eq_some_iff.1 x3).1
  have GA := Lib.hid g0
  have GB := Lib.hid g1
  have HB4 := Lib.hid B4
  have HX4 := Lib.hid x4
  clear x3 B3 g0 g1 B4 x4
  obtain ⟨gl, hgl⟩ : ∃ g, g = W3.heap.size := ⟨_, rfl⟩
  rw [← hgl] at GA GB
  have GL := Lib.hid hgl
  clear hgl
  go_wp2_with fail
  rw [← GL.out]
  clear hC
  go_loopw [19] (fun s19 wr => ∃ k : Nat, k ≤ 2 ∧ s19 = .int .i64 (k : Int) ∧ Hid (Below w.heap.size w wr) ∧ Hid (gl < wr.heap.size) ∧ Hid (wr.heap[w.heap.size]? = some (.cells #[.bool s, .slice ao n1 ca, .slice bo m1 cb] 27 (0, 0))) ∧ Hid (wr.cell? ⟨gl, 0, none⟩ = some (.int .i64 i)) ∧ Hid (wr.cell? ⟨gl, 1, none⟩ = some (.int .i64 C))) (fun s19 _ => 2 - (intOf s19).toNat)
  case atStart => exact ⟨0, by omega, rfl, HB4, (by show gl < (W3.alloc _).heap.size; rw [GL.out]; simp), HX4, GA, GB⟩
  case round =>
    obtain ⟨k, hk, rfl, hbl, hgs, hxx, ha, hb⟩ := hrel
    by_cases hlt : k < 2
    · obtain ⟨z, hz, hz0, hz1⟩ : ∃ z : Int, wr.cell? ⟨gl, k, none⟩ = some (.int .i64 z) ∧ -9223372036854775808 ≤ z ∧ z ≤ 9223372036854775807 := by
        rcases Nat.eq_zero_or_pos k with h | h
        · subst h; exact ⟨i, ha.out, HI0.out, HI1.out⟩
        · have : k = 1 := by omega
          subst this; exact ⟨C, hb.out, C0, C1⟩
      obtain ⟨P, y, pp, pr⟩ := power_both p z hz0 hz1
      obtain ⟨k0, k1, k2, _⟩ := at_block hxx.out
      go_wp2_with fail
      refine (pp.out s ao bo n1 ca m1 cb _ (HRX.out _ hbl.out)).mono ?_; rintro e W5 ⟨s5, a5, n5, c5, o5, m5, d5, rfl, cq5, b5⟩
      have n5x := below_new W5 (.cells #[.bool s5, .slice a5 n5 c5, .slice o5 m5 d5] 27)
      have D6 := b5.trans (n5x.mono b5.size)
      have x6 := carry (carry hxx.out b5) n5x
      have y6 := heap_alloc_new W5 (.cells #[.bool s5, .slice a5 n5 c5, .slice o5 m5 d5] 27)
      have q6 := cq5.below n5x
      obtain ⟨W6, hW6⟩ : ∃ W6, W6 = W5.alloc (.cells #[.bool s5, .slice a5 n5 c5, .slice o5 m5 d5] 27) := ⟨_, rfl⟩
      rw [← hW6] at D6 x6 y6 q6
      clear k0 k1 k2 n5x cq5 b5 pp
      go_upto_region 6 with fail
      rw [← hW6]
      obtain ⟨ga, hga⟩ : ∃ g, g = W5.heap.size := ⟨_, rfl⟩
      rw [← hga] at y6 ⊢
      clear hW6 hga
      obtain ⟨k0, k1, k2, _⟩ := at_block x6
      go_wp2_with fail
      refine (pr.out s ao bo n1 ca m1 cb _ (HRX.out _ (hbl.out.trans (D6.mono hbl.out.size)))).mono ?_; rintro e W7 ⟨s7, a7, n7, c7, o7, m7, d7, rfl, cq7, b7⟩
      have n7x := below_new W7 (.cells #[.bool s7, .slice a7 n7 c7, .slice o7 m7 d7] 27)
      have D8 := (D6.trans (b7.mono D6.size)).trans (n7x.mono (D6.trans (b7.mono D6.size)).size)
      have y8 := carry (carry y6 b7) n7x
      have q8 := (q6.below b7).below n7x
      have v8 := heap_alloc_new W7 (.cells #[.bool s7, .slice a7 n7 c7, .slice o7 m7 d7] 27)
      have r8 := cq7.below n7x
      obtain ⟨W8, hW8⟩ : ∃ W8, W8 = W7.alloc (.cells #[.bool s7, .slice a7 n7 c7, .slice o7 m7 d7] 27) := ⟨_, rfl⟩
      rw [← hW8] at D8 y8 q8 v8 r8
      clear k0 k1 k2 n7x cq7 b7 x6 y6 q6 pr
      go_upto_region 7 with fail
      rw [← hW8]
      obtain ⟨gb, hgb⟩ : ∃ g, g = W7.heap.size := ⟨_, rfl⟩
      rw [← hgb] at v8 ⊢
      clear hW8 hgb
      obtain ⟨k0, k1, k2, _⟩ := at_block y8
      obtain ⟨k3, k4, k5, _⟩ := at_block v8
      go_wp2_with fail
      refine (Same_q q8 r8 rfl).mono ?_; rintro e W9 ⟨rfl, b9⟩
      have D9 := D8.trans (b9.mono D8.size)
      clear k0 k1 k2 k3 k4 k5 y8 v8 q8 r8
      have NB : Hid (Below w.heap.size w W9) := hbl.out.trans (D9.mono hbl.out.size)
      have NG : Hid (gl < W9.heap.size) := Nat.lt_of_lt_of_le hgs.out D9.size
      have NX := Lib.hid (carry hxx.out D9)
      have NA : Hid (W9.cell? ⟨gl, 0, none⟩ = some (.int .i64 i)) := (D9.cell (p := ⟨gl, 0, none⟩) hgs.out).trans ha.out
      have NC : Hid (W9.cell? ⟨gl, 1, none⟩ = some (.int .i64 C)) := (D9.cell (p := ⟨gl, 1, none⟩) hgs.out).trans hb.out
      go_wp2_with fail
      go_roundw
      case rel => exact ⟨k + 1, by omega, by go_num, NB, NG, NX, NA, NC⟩
      case measure => simp [intOf]; omega
    · obtain rfl : k = 2 := by omega
      go_wp2_with fail
      refine (awake2_any _ (HTab.out _ hbl.out)).mono ?_; rintro e W9 ⟨rfl, b9⟩
      have BE := hbl.out.trans (b9.mono hbl.out.size)
      go_wp2_with fail
      go_ret
      exact ⟨rfl, BE⟩
end Go.Proofs.YtbfmmkglfmlglaaDoor
