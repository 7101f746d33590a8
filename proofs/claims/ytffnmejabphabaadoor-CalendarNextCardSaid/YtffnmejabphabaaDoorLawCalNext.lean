import Derived.Test.YtffnmejabphabaaDoorCal8
/- CalendarNext: the walk. -/
namespace Go.Proofs.YtffnmejabphabaaDoor
open Go.RowKit Go.Sort

/-- what is true of two neighbouring days' dates -/
def NextF (Y M D Y2 M2 D2 : Int) : Prop :=
  ((Y2 == Y) = true ∧ (M2 == M) = true ∧ (D2 == D + 1) = true ∧ (M2 == M + 1) = false ∧ (Y2 == Y + 1) = false) ∨
  ((Y2 == Y) = true ∧ (M2 == M) = false ∧ (M2 == M + 1) = true ∧ (D2 == 1) = true ∧ decide (28 ≤ D) = true ∧ (Y2 == Y + 1) = false) ∨
  ((Y2 == Y) = false ∧ (Y2 == Y + 1) = true ∧ (M2 == 1) = true ∧ (D2 == 1) = true ∧ (M == 12) = true ∧ (D == 31) = true)
theorem per_at {d : Int} {p : Nat} (h : d = fst p) : Per p d := ⟨Int.le_of_eq h.symm, by have := fst_lt p; omega⟩
theorem next_facts (n : Int) (h0 : 0 ≤ n) (h1 : n < 182620) : ∃ Y M D Y2 M2 D2 : Int,
    Hid (∀ w, Calls Tryd.prog 20 #[.int .i64 n] w fun e w' => e = .returned (.tuple #[.agg #[.int .i64 Y, .int .i64 M, .int .i64 D], .bool true]) ∧ Below w.heap.size w w') ∧
    Hid (∀ w, Calls Tryd.prog 20 #[.int .i64 (n + 1)] w fun e w' => e = .returned (.tuple #[.agg #[.int .i64 Y2, .int .i64 M2, .int .i64 D2], .bool true]) ∧ Below w.heap.size w w') ∧
    NextF Y M D Y2 M2 D2 ∧ 0 ≤ Y ∧ Y ≤ 3000 ∧ 0 ≤ M ∧ M ≤ 12 ∧ 0 ≤ D ∧ D ≤ 31 := by
  obtain ⟨k, r, hk, hr, hp⟩ := Per.of_day n h0 (by omega)
  have c1 := DateOf_in n k r hp hk hr
  have hm := mlI_bd (1900 + (k : Int)) ((r : Int) + 1)
  have hs := fst_step k r hr
  rw [← Nat.add_assoc] at hs
  have hq := hp.2
  have hq0 := hp.1
  by_cases hlt : n + 1 < fst (12 * k + r + 1)
  · have c2 := DateOf_in (n + 1) k r ⟨by omega, hlt⟩ hk hr
    refine ⟨_, _, _, _, _, _, c1, c2, .inl ⟨?_, ?_, ?_, ?_, ?_⟩, ?_, ?_, ?_, ?_, ?_, ?_⟩
    all_goals first | omega | (simp; done) | (simp; omega)
  · by_cases hr11 : r = 11
    · have hk1 : k + 1 < 500 := by
        by_cases e : k + 1 < 500
        · exact e
        · obtain rfl : k = 499 := by omega
          subst hr11
          have := fst_end
          rw [show 6000 = 12 * 499 + 11 + 1 by rfl] at this
          omega
      have e : 12 * k + r + 1 = 12 * (k + 1) + 0 := by omega
      have hq1 : n + 1 = fst (12 * (k + 1) + 0) := by rw [← e]; omega
      have hq2 : n + 1 = fst (12 * (k + 1)) := hq1
      have c2 := DateOf_in (n + 1) (k + 1) 0 (per_at hq1) hk1 (by omega)
      have h31 : mlI (1900 + (k : Int)) ((r : Int) + 1) = 31 := by subst hr11; simp [mlI]
      refine ⟨_, _, _, _, _, _, c1, c2, .inr (.inr ⟨?_, ?_, ?_, ?_, ?_, ?_⟩), ?_, ?_, ?_, ?_, ?_, ?_⟩
      all_goals first | omega | (simp; done) | (simp; omega)
    · have e : 12 * k + r + 1 = 12 * k + (r + 1) := by omega
      have hq1 : n + 1 = fst (12 * k + (r + 1)) := by rw [← e]; omega
      have c2 := DateOf_in (n + 1) k (r + 1) (per_at hq1) hk (by omega)
      refine ⟨_, _, _, _, _, _, c1, c2, .inr (.inl ⟨?_, ?_, ?_, ?_, ?_, ?_⟩), ?_, ?_, ?_, ?_, ?_, ?_⟩
      all_goals first | omega | (simp; done) | (simp; omega)

set_option maxHeartbeats 16000000 in
set_option maxRecDepth 100000 in
theorem CalendarNext_any (z : Int) (w : World) (htab : Tab w) :
    Calls Tryd.prog 5 #[.int .i64 z] w fun e w' => e = .returned (.bool true) ∧ Below w.heap.size w w' := by
  go_enter Tryd.func5, Tryd.ntmps5
  go_wp2_with fail
  refine (Fold_v z 182620 (by omega) (by omega) _ 182620 rfl).mono ?_; rintro e w' ⟨n, rfl, hn, rfl⟩
  obtain ⟨Y, M, D, Y2, M2, D2, c1, c2, hf, y0, y1, m0, m1, d0, d1⟩ := next_facts (n : Int) (by omega) (by omega)
  have hw1 := Weekday_in ((n : Int) + 1) (by omega) (by omega)
  have hw0 := Weekday_in (n : Int) (by omega) (by omega)
  obtain ⟨x1, hx1⟩ : ∃ x1, x1 = ((n : Int) + 1) % 7 := ⟨_, rfl⟩
  obtain ⟨x0, hx0⟩ : ∃ x0, x0 = (n : Int) % 7 := ⟨_, rfl⟩
  have x00 : 0 ≤ x0 := by omega
  have x01 : x0 ≤ 6 := by omega
  have hxx : (x1 == (x0 + 1) % 7) = true := beq_iff_eq.2 (by omega)
  rw [← hx1] at hw1
  rw [← hx0] at hw0
  have HW1 := Lib.hid hw1
  have HW0 := Lib.hid hw0
  have ht := Lib.hid htab
  clear hw1 hw0 hx1 hx0 htab
  rcases hf with ⟨a1, a2, a3, a4, a7⟩ | ⟨a1, a2, a4, a5, a6, a7⟩ | ⟨a1, a7, a8, a5, a9, a10⟩
  all_goals
    go_wp2_with fail
    refine (c1.out _).mono ?_; rintro e w1 ⟨rfl, b1⟩
    have B1 := keepC b1 (below_new w1 (.cells #[.int .i64 Y, .int .i64 M, .int .i64 D] 23))
    go_wp2_with fail
    refine (c2.out _).mono ?_; rintro e w2 ⟨rfl, b2⟩
    have B2 := keepC B1 b2
    have B3 := keepC B2 (below_new w2 (.cells #[.int .i64 Y2, .int .i64 M2, .int .i64 D2] 23))
    obtain ⟨hc, hfz⟩ := bcellc b2
    have hz : w1.heap.size < w2.heap.size := by have := b2.size; simp at this; omega
    go_wp2_with fail
    refine (HW1.out _).mono ?_; rintro e w' ⟨rfl, rfl⟩
    go_wp2_with fail
    refine (HW0.out _).mono ?_; rintro e w' ⟨rfl, rfl⟩
    go_wp2_with fail
    refine (awake_v _ (ht.out.below B3)).mono ?_; rintro e w5 ⟨rfl, b5⟩
    have BE := keepC B3 b5
    go_wp2_with fail
    go_ret
    exact ⟨rfl, BE⟩
end Go.Proofs.YtffnmejabphabaaDoor
