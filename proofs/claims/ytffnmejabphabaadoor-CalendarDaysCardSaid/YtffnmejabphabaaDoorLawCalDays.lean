import Derived.Test.YtffnmejabphabaaDoorCal8
/- CalendarDays: the walk. -/
namespace Go.Proofs.YtffnmejabphabaaDoor
open Go.RowKit Go.Sort

def DateGives (f : Nat) (x Y M D : Int) (ok : Bool) : Prop := ∀ w, Calls Tryd.prog f #[.int .i64 x] w fun e w' => e = .returned (.tuple #[.agg #[.int .i64 Y, .int .i64 M, .int .i64 D], .bool ok]) ∧ Below w.heap.size w w'
theorem days_at (x : Int) : ∃ (Y M D : Int) (ok : Bool) (b c : Int), Hid (DateGives 20 x Y M D ok) ∧ Hid (DateGives 21 x Y M D ok) ∧ Hid (Gives 22 x b) ∧ Hid (Gives 23 x b) ∧
    Hid (Gives 24 x c) ∧ Hid (Gives 25 x c) ∧
    (ok = false ∨ (ok = true ∧ Hid (∀ w, Calls Tryd.prog 16 #[.agg #[.int .i64 Y, .int .i64 M, .int .i64 D]] w fun e w' => e = .returned (.int .i64 x) ∧ Below w.heap.size w w'))) := by
  by_cases h : x < 0 ∨ 182620 < x
  · exact ⟨0, 0, 0, false, -1, -1, DateOf_out x h, rDateOf_out x h, gives_q (Weekday_out x h), gives_q (rWeekday_out x h), PeriodOf_out x h, gives_q (rPeriodOf_out x h), .inl rfl⟩
  · obtain ⟨k, r, hk, hr, hp⟩ := Per.of_day x (by omega) (by omega)
    have hs := fst_step k r hr
    rw [← Nat.add_assoc] at hs
    have hq := hp.2
    have hq0 := hp.1
    have hn := Number_in k r (x - fst (12 * k + r) + 1) hk hr (by omega) (by omega)
    rw [show fst (12 * k + r) + (x - fst (12 * k + r) + 1) - 1 = x by omega] at hn
    exact ⟨_, _, _, true, _, _, DateOf_in x k r hp hk hr, rDateOf_in x k r hp hk hr, gives_q (Weekday_in x (by omega) (by omega)), gives_q (rWeekday_in x (by omega) (by omega)),
      PeriodOf_in x _ hp (by omega), gives_q (rPeriodOf_in x _ hp (by omega)), .inr ⟨rfl, hn⟩⟩

set_option maxHeartbeats 16000000 in
set_option maxRecDepth 100000 in
theorem CalendarDays_any (z : Int) (w : World) (htab : Tab w) :
    Calls Tryd.prog 4 #[.int .i64 z] w fun e w' => e = .returned (.bool true) ∧ Below w.heap.size w w' := by
  go_enter Tryd.func4, Tryd.ntmps4
  go_wp2_with fail
  refine (Fold_v z 182621 (by omega) (by omega) _ 182621 rfl).mono ?_; rintro e w' ⟨k, rfl, hk, rfl⟩
  go_wp2_with fail
  have bn := below_new w (.cells #[.int .i64 z, .int .i64 (k : Int)] 3)
  have hg0 : (w.alloc (.cells #[.int .i64 z, .int .i64 (k : Int)] 3)).cell? ⟨w.heap.size, 0, none⟩ = some (.int .i64 z) := World.cell?_alloc_mark w _ _ (0, 0) 0
  have hg1 : (w.alloc (.cells #[.int .i64 z, .int .i64 (k : Int)] 3)).cell? ⟨w.heap.size, 1, none⟩ = some (.int .i64 (k : Int)) := World.cell?_alloc_mark w _ _ (0, 0) 1
  go_loopw [14] (fun s14 wr => ∃ i : Nat, i ≤ 2 ∧ s14 = .int .i64 i ∧ Below w.heap.size w wr ∧ w.heap.size < wr.heap.size ∧ wr.cell? ⟨w.heap.size, 0, none⟩ = some (.int .i64 z) ∧ wr.cell? ⟨w.heap.size, 1, none⟩ = some (.int .i64 (k : Int))) (fun s14 _ => 2 - (intOf s14).toNat)
  case atStart => exact ⟨0, by omega, rfl, bn, by simp, hg0, hg1⟩
  case round =>
    obtain ⟨i, hi, rfl, hbl, hsz, g0, g1⟩ := hrel
    by_cases hlt : i < 2
    · obtain ⟨x, hx⟩ : ∃ x : Int, wr.cell? ⟨w.heap.size, i, none⟩ = some (.int .i64 x) := by
        rcases Nat.eq_zero_or_pos i with h | h
        · subst h; exact ⟨z, g0⟩
        · have : i = 1 := by omega
          subst this; exact ⟨k, g1⟩
      obtain ⟨Y, M, D, ok, b, c, h1, h2, h3, h4, h5, h6, h7⟩ := days_at x
      have G0 := Lib.hid g0
      have G1 := Lib.hid g1
      clear g0 g1
      rcases h7 with rfl | ⟨rfl, h7⟩
      all_goals
        go_wp2_with fail
        refine (h1.out _).mono ?_; rintro e w1 ⟨rfl, b1⟩
        have B1 := keepC b1 (below_new w1 (.cells #[.int .i64 Y, .int .i64 M, .int .i64 D] 23))
        go_wp2_with fail
        refine (h2.out _).mono ?_; rintro e w2 ⟨rfl, b2⟩
        have B2 := keepC B1 b2
        have B3 := keepC B2 (below_new w2 (.cells #[.int .i64 Y, .int .i64 M, .int .i64 D] 23))
        obtain ⟨hc, hfz⟩ := bcellc b2
        have hz : w1.heap.size < w2.heap.size := by have := b2.size; simp at this; omega
        go_wp2_with fail
        refine (h3.out _).mono ?_; rintro e w3 ⟨rfl, b3⟩
        go_wp2_with fail
        refine (h4.out _).mono ?_; rintro e w4 ⟨rfl, b4⟩
        go_wp2_with fail
        refine (h5.out _).mono ?_; rintro e w5 ⟨rfl, b5⟩
        go_wp2_with fail
        refine (h6.out _).mono ?_; rintro e w6 ⟨rfl, b6⟩
        have B := keepC (keepC (keepC (keepC B3 b3) b4) b5) b6
        first
          | (go_wp2_with fail
             go_roundw
             case rel => exact ⟨i + 1, by omega, by go_num, hbl.trans (B.mono hbl.size), Nat.lt_of_lt_of_le hsz B.size, (B.cell (p := ⟨w.heap.size, 0, none⟩) hsz).trans G0.out, (B.cell (p := ⟨w.heap.size, 1, none⟩) hsz).trans G1.out⟩
             case measure => simp [intOf]; omega)
          | skip
      · have b36 := keepC (keepC (keepC b3 b4) b5) b6
        obtain ⟨hd, hdz⟩ := bcellc b36
        have hz6 : w2.heap.size < w6.heap.size := by have := b36.size; simp at this; omega
        go_wp2_with fail
        refine (h7.out _).mono ?_; rintro e w7 ⟨rfl, b7⟩
        replace B := keepC B b7
        go_wp2_with fail
        go_roundw
        case rel => exact ⟨i + 1, by omega, by go_num, hbl.trans (B.mono hbl.size), Nat.lt_of_lt_of_le hsz B.size, (B.cell (p := ⟨w.heap.size, 0, none⟩) hsz).trans G0.out, (B.cell (p := ⟨w.heap.size, 1, none⟩) hsz).trans G1.out⟩
        case measure => simp [intOf]; omega
    · obtain rfl : i = 2 := by omega
      go_wp2_with fail
      refine (awake_v _ (htab.below hbl)).mono ?_; rintro e w6 ⟨rfl, b6⟩
      have BE := hbl.trans (b6.mono hbl.size)
      go_wp2_with fail
      go_ret
      exact ⟨rfl, BE⟩
end Go.Proofs.YtffnmejabphabaaDoor
