/- NaturalPowers: the walk. -/
import Derived.Test.YtaggodjplgmmhaaDoorPow3
namespace Go.Proofs.YtaggodjplgmmhaaDoor
open Go.RowKit

theorem cell_of_heap {w : World} {b j : Nat} {cs : Array Value} {t : TypeId} {fr : Nat × Nat} {v : Value} (h : w.heap[b]? = some (.cells cs t fr)) (hj : cs[j]? = some v) : w.cell? ⟨b, j, none⟩ = some v := by
  simp [World.cell?, h, hj]
theorem pow_res_le {N : Nat} {K : Nat} {k : Int} (h : Sm N K) : ∃ L, Sm (powRes N k) L := by
  rcases pow_cases N k with ⟨c1, e1, e2⟩ | ⟨rfl, e1, e2⟩ | ⟨j, rfl, c1, c2, e1, e2, e3⟩ | ⟨j, rfl, c1, c2, c3, e1, e2⟩ | ⟨j, rfl, c1, c2, c3, c4, e1, e2⟩ | ⟨j, rfl, c1, c2, c3, c4, e1, e2⟩
  · rw [e2]; exact ⟨0, by rw [pw_zero]; omega, by omega⟩
  · rw [e2]; exact ⟨1, by rw [pw_succ, pw_zero]; omega, by omega⟩
  · rw [e2, e3]; exact ⟨K, h⟩
  · rw [e2]; exact ⟨0, by rw [pw_zero]; omega, by omega⟩
  · rw [e2]; exact ⟨0, by rw [pw_zero]; omega, by omega⟩
  · rw [e2]; exact ⟨8194, Sm.of_le (pow_sm c2 c1 c3).1 (by omega)⟩

set_option maxHeartbeats 20000000 in
set_option maxRecDepth 100000 in
theorem NaturalPowers_any (ao : Option Addr) (ca : Nat) (xs : List Nat) (z : Int) (w : World) (ha : Rd w ao ca xs) (hz0 : -9223372036854775808 ≤ z) (hz1 : z ≤ 9223372036854775807) (htab : Tab w) :
    Calls Tryd.prog 6 #[.slice ao xs.length ca, .int .i64 z] w fun e w' => e = .returned (.bool true) ∧ Below w.heap.size w w' := by
  obtain ⟨N, n_a, s_a⟩ := cut_min (k := 3) ha (by omega) 3 rfl
  have hm_a := ha.max
  have hl_a := ha.le
  clear ha
  go_enter Tryd.func6, Tryd.ntmps6
  go_wp2_with fail
  refine (Fold_any z 30 (by omega) (by omega) _ 30 rfl).mono ?_; rintro e w' ⟨k, rfl, hk, rfl⟩
  go_wp2_with fail
  have bn := below_new w (.cells #[.int .i64 z, .int .i64 (k : Int)] 3)
  have hg0 : (w.alloc (.cells #[.int .i64 z, .int .i64 (k : Int)] 3)).cell? ⟨w.heap.size, 0, none⟩ = some (.int .i64 z) := cell_of_heap (heap_alloc_new w _) rfl
  have hg1 : (w.alloc (.cells #[.int .i64 z, .int .i64 (k : Int)] 3)).cell? ⟨w.heap.size, 1, none⟩ = some (.int .i64 (k : Int)) := cell_of_heap (heap_alloc_new w _) rfl
  replace n_a := n_a.below bn
  go_loopw [21] (fun s21 wr => ∃ i : Nat, i ≤ 2 ∧ s21 = .int .i64 i ∧ Below w.heap.size w wr ∧ w.heap.size < wr.heap.size ∧ wr.cell? ⟨w.heap.size, 0, none⟩ = some (.int .i64 z) ∧ wr.cell? ⟨w.heap.size, 1, none⟩ = some (.int .i64 (k : Int)) ∧ Num wr ao (min ((xs.length : Nat) : Int) 3).toNat ca N) (fun s21 _ => 2 - (intOf s21).toNat)
  case atStart => exact ⟨0, by omega, rfl, bn, by simp, hg0, hg1, n_a⟩
  case round =>
    obtain ⟨i, hi, rfl, hbl, hsz, g0, g1, n_r⟩ := hrel
    by_cases hlt : i < 2
    · obtain ⟨ev, hev, hb0, hb1⟩ : ∃ ev : Int, wr.cell? ⟨w.heap.size, i, none⟩ = some (.int .i64 ev) ∧ -9223372036854775808 ≤ ev ∧ ev ≤ 9223372036854775807 := by
        rcases Nat.eq_zero_or_pos i with h | h
        · subst h; exact ⟨z, g0, hz0, hz1⟩
        · have : i = 1 := by omega
          subst this; exact ⟨k, g1, by omega, by omega⟩
      obtain ⟨y, hy⟩ : ∃ y, powWhy N ev = y := ⟨_, rfl⟩
      obtain ⟨L, hL⟩ := pow_res_le (k := ev) s_a
      obtain ⟨R, hR⟩ : ∃ R, powRes N ev = R := ⟨_, rfl⟩
      have HY := Lib.hid hy
      have HR := Lib.hid hR
      have G0 := Lib.hid g0
      have G1 := Lib.hid g1
      clear hy hR g0 g1
      go_wp2_with fail
      refine (Power_num ev n_r hb0 hb1).mono ?_; rintro e w1 ⟨a1, c1, rfl, f1, b1⟩
      rw [HY.out, HR.out]
      rw [HR.out] at f1
      have n_1 := n_r.below b1
      go_wp2_with fail
      refine (rPower_num ev n_1 hb0 hb1 s_a (by omega)).mono ?_; rintro e w2 ⟨a2, c2, rfl, f2, b2⟩
      rw [HY.out, HR.out]
      rw [HR.out] at f2
      replace f1 := f1.below b2
      go_wp2_with fail
      refine (Same_num f1 f2 rfl).mono ?_; rintro e w3 ⟨rfl, b3⟩
      have B := (b1.trans (b2.mono b1.size)).trans (b3.mono (Nat.le_trans b1.size b2.size))
      go_wp2_with fail
      go_roundw
      case rel => exact ⟨i + 1, by omega, by go_num, hbl.trans (B.mono hbl.size), Nat.lt_of_lt_of_le hsz B.size, (B.cell (p := ⟨w.heap.size, 0, none⟩) hsz).trans G0.out, (B.cell (p := ⟨w.heap.size, 1, none⟩) hsz).trans G1.out, n_r.below B⟩
      case measure => simp [intOf]; omega
    · obtain rfl : i = 2 := by omega
      go_wp2_with fail
      refine (awake_any _ (htab.below hbl)).mono ?_; rintro e w6 ⟨rfl, b6⟩
      have BE := hbl.trans (b6.mono hbl.size)
      go_wp2_with fail
      go_ret
      exact ⟨rfl, BE⟩
end Go.Proofs.YtaggodjplgmmhaaDoor
