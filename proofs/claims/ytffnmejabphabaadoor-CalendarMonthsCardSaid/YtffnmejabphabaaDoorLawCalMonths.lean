import Derived.Test.YtffnmejabphabaaDoorCal8
/- CalendarMonths: the walk. -/
namespace Go.Proofs.YtffnmejabphabaaDoor
open Go.RowKit Go.Sort

set_option maxHeartbeats 8000000 in
theorem CalendarMonths_any (z : Int) (w : World) (htab : Tab w) :
    Calls Tryd.prog 6 #[.int .i64 z] w fun e w' => e = .returned (.bool true) ∧ Below w.heap.size w w' := by
  go_enter Tryd.func6, Tryd.ntmps6
  go_wp2_with fail
  refine (Fold_v z 6000 (by omega) (by omega) _ 6000 rfl).mono ?_; rintro e w' ⟨k, rfl, hk, rfl⟩
  go_wp2_with fail
  have bn := below_new w (.cells #[.int .i64 z, .int .i64 (k : Int)] 3)
  have hg0 : (w.alloc (.cells #[.int .i64 z, .int .i64 (k : Int)] 3)).cell? ⟨w.heap.size, 0, none⟩ = some (.int .i64 z) := World.cell?_alloc_mark w _ _ (0, 0) 0
  have hg1 : (w.alloc (.cells #[.int .i64 z, .int .i64 (k : Int)] 3)).cell? ⟨w.heap.size, 1, none⟩ = some (.int .i64 (k : Int)) := World.cell?_alloc_mark w _ _ (0, 0) 1
  go_loopw [10] (fun s10 wr => ∃ i : Nat, i ≤ 2 ∧ s10 = .int .i64 i ∧ Below w.heap.size w wr ∧ w.heap.size < wr.heap.size ∧ wr.cell? ⟨w.heap.size, 0, none⟩ = some (.int .i64 z) ∧ wr.cell? ⟨w.heap.size, 1, none⟩ = some (.int .i64 (k : Int))) (fun s10 _ => 2 - (intOf s10).toNat)
  case atStart => exact ⟨0, by omega, rfl, bn, by simp, hg0, hg1⟩
  case round =>
    obtain ⟨i, hi, rfl, hbl, hsz, g0, g1⟩ := hrel
    by_cases hlt : i < 2
    · obtain ⟨x, hx⟩ : ∃ x : Int, wr.cell? ⟨w.heap.size, i, none⟩ = some (.int .i64 x) := by
        rcases Nat.eq_zero_or_pos i with h | h
        · subst h; exact ⟨z, g0⟩
        · have : i = 1 := by omega
          subst this; exact ⟨k, g1⟩
      obtain ⟨a, b, c, d, h1, h2, h3, h4, h5, h6, h7, h8⟩ := months_at x
      have G0 := Lib.hid g0
      have G1 := Lib.hid g1
      clear g0 g1
      go_wp2_with fail
      refine (h1.out _).mono ?_; rintro e w1 ⟨rfl, b1⟩
      go_wp2_with fail
      refine (h2.out _).mono ?_; rintro e w2 ⟨rfl, b2⟩
      go_wp2_with fail
      refine (h3.out _).mono ?_; rintro e w3 ⟨rfl, b3⟩
      go_wp2_with fail
      refine (h4.out _).mono ?_; rintro e w4 ⟨rfl, b4⟩
      go_wp2_with fail
      refine (h5.out _).mono ?_; rintro e w5 ⟨rfl, b5⟩
      go_wp2_with fail
      refine (h6.out _).mono ?_; rintro e w6 ⟨rfl, b6⟩
      go_wp2_with fail
      refine (h7.out _).mono ?_; rintro e w7 ⟨rfl, b7⟩
      go_wp2_with fail
      refine (h8.out _).mono ?_; rintro e w8 ⟨rfl, b8⟩
      have B := keepC (keepC (keepC (keepC (keepC (keepC (keepC b1 b2) b3) b4) b5) b6) b7) b8
      go_wp2_with fail
      go_roundw
      case rel => exact ⟨i + 1, by omega, by go_num, hbl.trans (B.mono hbl.size), Nat.lt_of_lt_of_le hsz B.size, (B.cell (p := ⟨w.heap.size, 0, none⟩) hsz).trans G0.out, (B.cell (p := ⟨w.heap.size, 1, none⟩) hsz).trans G1.out⟩
      case measure => simp [intOf]; omega
    · obtain rfl : i = 2 := by omega
      go_wp2_with fail
      refine (awake_v _ (htab.below hbl)).mono ?_; rintro e w6 ⟨rfl, b6⟩
      have BE := hbl.trans (b6.mono hbl.size)
      go_wp2_with fail
      go_ret
      exact ⟨rfl, BE⟩
end Go.Proofs.YtffnmejabphabaaDoor
