import Derived.Test.YtffnmejabphabaaDoorCtx4
import Derived.Test.YtffnmejabphabaaDoorCal8
/- CalendarTexts: the walk. -/
namespace Go.Proofs.YtffnmejabphabaaDoor
open Go.RowKit Go.Sort

theorem date_texts (y m d : Int) : ∃ T : ByteArray, Hid (∀ w, Tab w → Calls Tryd.prog 39 #[.agg #[.int .i64 y, .int .i64 m, .int .i64 d]] w fun e w' => e = .returned (.string T) ∧ Below w.heap.size w w') ∧
    Hid (∀ w, Calls Tryd.prog 41 #[.agg #[.int .i64 y, .int .i64 m, .int .i64 d]] w fun e w' => e = .returned (.string T) ∧ Below w.heap.size w w') := by
  cases hv : vdI y m d
  · exact ⟨_, fun w _ => FormatDate_out y m d hv w, fun w => rFormatDate_out y m d hv w⟩
  · obtain ⟨k, r, hk, hr, e1, e2, h1, h2⟩ := vd_true hv
    obtain ⟨i, hi⟩ := Int.eq_ofNat_of_zero_le (show 0 ≤ d by omega)
    subst e1 e2 hi
    exact ⟨_, fun w h => FormatDate_in k r i hk hr (by omega) h2 w h, fun w => rFormatDate_in k r i hk hr (by omega) h2 w⟩
theorem period_texts (p : Int) : ∃ T : ByteArray, Hid (∀ w, Tab w → Calls Tryd.prog 40 #[.int .i64 p] w fun e w' => e = .returned (.string T) ∧ Below w.heap.size w w') ∧
    Hid (∀ w, Calls Tryd.prog 42 #[.int .i64 p] w fun e w' => e = .returned (.string T) ∧ Below w.heap.size w w') := by
  by_cases h : p < 0 ∨ 5999 < p
  · exact ⟨_, fun w _ => (FormatPeriod_out p h w).mono fun _ _ h => ⟨h.1, h.2 ▸ Below.refl _ _⟩, fun w => rFormatPeriod_out p h w⟩
  · obtain ⟨n, hn⟩ := Int.eq_ofNat_of_zero_le (show 0 ≤ p by omega)
    have hp : p = 12 * ((n / 12 : Nat) : Int) + ((n % 12 : Nat) : Int) := by omega
    exact ⟨_, fun w h => (FormatPeriod_in p _ _ hp (by omega) (by omega) w h).mono fun _ _ h => ⟨h.1, h.2.below⟩, fun w => rFormatPeriod_in p _ _ hp (by omega) (by omega) w⟩
/-- the text of a period leads back to it -/
theorem period_back (n : Nat) (hn : n < 6000) : ∃ T : ByteArray, Hid (∀ w, Tab w → Calls Tryd.prog 40 #[.int .i64 (n : Int)] w fun e w' => e = .returned (.string T) ∧ Below w.heap.size w w') ∧
    Hid (∀ w, Tab w → ErrV w → Calls Tryd.prog 43 #[.string T] w fun e w' => e = .returned (.tuple #[.int .i64 (n : Int), .int .i64 0]) ∧ Below w.heap.size w w') := by
  have hp : (n : Int) = 12 * ((n / 12 : Nat) : Int) + ((n % 12 : Nat) : Int) := by omega
  have hr : n % 12 < 12 := by omega
  have hk : n / 12 < 500 := by omega
  refine ⟨perT (n / 12) (n % 12), fun w h => (FormatPeriod_in (n : Int) _ _ hp hr hk w h).mono fun _ _ h => ⟨h.1, h.2.below⟩, fun w h g => (ParsePeriod_v _ w h g).mono ?_⟩
  rintro e w' ⟨p, x, rfl, hpo, hb⟩
  obtain ⟨rfl, rfl⟩ := hpo.uniq (.inl ⟨n / 12, n % 12, hk, hr, rfl, rfl, rfl⟩)
  exact ⟨by rw [← hp], hb⟩
/-- the text of a date leads back to it -/
theorem date_back (j : Nat) (hj : j < 182621) : ∃ (Y M D : Int) (T : ByteArray), Hid (∀ w, Calls Tryd.prog 21 #[.int .i64 (j : Int)] w fun e w' => e = .returned (.tuple #[.agg #[.int .i64 Y, .int .i64 M, .int .i64 D], .bool true]) ∧ Below w.heap.size w w') ∧
    Hid (∀ w, Tab w → Calls Tryd.prog 39 #[.agg #[.int .i64 Y, .int .i64 M, .int .i64 D]] w fun e w' => e = .returned (.string T) ∧ Below w.heap.size w w') ∧
    Hid (∀ w, Calls Tryd.prog 41 #[.agg #[.int .i64 Y, .int .i64 M, .int .i64 D]] w fun e w' => e = .returned (.string T) ∧ Below w.heap.size w w') ∧
    Hid (∀ w, Tab w → ErrV w → Calls Tryd.prog 44 #[.string T] w fun e w' => e = .returned (.tuple #[.agg #[.int .i64 Y, .int .i64 M, .int .i64 D], .int .i64 0]) ∧ Below w.heap.size w w') ∧ T.size = 10 := by
  obtain ⟨k, r, hk, hr, hp⟩ := Per.of_day (j : Int) (by omega) (by omega)
  have hs := fst_step k r hr
  rw [← Nat.add_assoc] at hs
  have hq := hp.2
  have hq0 := hp.1
  obtain ⟨i, hi⟩ := Int.eq_ofNat_of_zero_le (show 0 ≤ (j : Int) - fst (12 * k + r) + 1 by omega)
  have hD := rDateOf_in (j : Int) k r hp hk hr
  rw [hi] at hD
  have hml : (i : Int) ≤ mlI (1900 + (k : Int)) ((r : Int) + 1) := by omega
  have hi1 : 1 ≤ i := by omega
  refine ⟨_, _, _, dayT k r i, hD, fun w h => FormatDate_in k r i hk hr hi1 hml w h, fun w => rFormatDate_in k r i hk hr hi1 hml w, fun w h g => (ParseDate_v _ w h g).mono ?_, rfl⟩
  rintro e w' ⟨y, m, d, x, rfl, hpo, hb⟩
  obtain ⟨rfl, rfl, rfl, rfl⟩ := hpo.uniq (.inl ⟨k, r, i, hk, hr, hi1, hml, rfl, rfl, rfl, rfl, rfl⟩)
  exact ⟨rfl, hb⟩

set_option maxHeartbeats 16000000 in
set_option maxRecDepth 100000 in
theorem CalendarTexts_any (y m d p : Int) (w : World) (htab : Tab w) (hev : ErrV w) :
    Calls Tryd.prog 12 #[.agg #[.int .i64 y, .int .i64 m, .int .i64 d], .int .i64 p] w fun e w' => e = .returned (.bool true) ∧ Below w.heap.size w w' := by
  obtain ⟨T, t1, t2⟩ := date_texts y m d
  obtain ⟨U, u1, u2⟩ := period_texts p
  have B0 := below_new w (.cells #[.int .i64 y, .int .i64 m, .int .i64 d] 23)
  obtain ⟨W1, hW1⟩ : ∃ W1, W1 = w.alloc (.cells #[.int .i64 y, .int .i64 m, .int .i64 d] 23) := ⟨_, rfl⟩
  have r1 : DBox W1 w.heap.size y m d := by rw [hW1]; exact DBox.new _ _ _ _
  rw [← hW1] at B0
  have R : Hid (∀ w', Below W1.heap.size W1 w' → DBox w' w.heap.size y m d) := fun w' b => r1.below b
  have HT : Hid (∀ w', Below W1.heap.size W1 w' → Tab w' ∧ ErrV w') := fun w' b => ⟨(htab.below B0).below b, (hev.below B0).below b⟩
  have HW := Lib.hid hW1
  obtain ⟨⟨c0, c1, c2⟩, _⟩ := r1.cells
  clear htab hev r1 hW1
  go_enter Tryd.func12, Tryd.ntmps12
  go_wp2_with fail
  rw [← HW.out]
  refine (t1.out _ (HT.out _ (Below.refl _ _)).1).mono ?_; rintro e w2 ⟨rfl, b2⟩
  have B2 : Below W1.heap.size W1 w2 := b2
  clear c0 c1 c2
  go_wp2_with fail
  refine (u1.out _ (HT.out _ B2).1).mono ?_; rintro e w3 ⟨rfl, b3⟩
  have B3 := keepC B2 b3
  obtain ⟨⟨c0, c1, c2⟩, _⟩ := (R.out _ B3).cells
  go_wp2_with fail
  refine (t2.out _).mono ?_; rintro e w4 ⟨rfl, b4⟩
  have B4 := keepC B3 b4
  clear c0 c1 c2
  go_wp2_with fail
  refine (u2.out _).mono ?_; rintro e w5 ⟨rfl, b5⟩
  have B5 := keepC B4 b5
  go_wp2_with fail
  refine (Fold_v p 6000 (by omega) (by omega) _ 6000 rfl).mono ?_; rintro e w' ⟨n, rfl, hn, rfl⟩
  obtain ⟨S, s1, s2⟩ := period_back n hn
  go_wp2_with fail
  refine (s1.out _ (HT.out _ B5).1).mono ?_; rintro e w6 ⟨rfl, b6⟩
  have B6 := keepC B5 b6
  go_wp2_with fail
  refine (s2.out _ (HT.out _ B6).1 (HT.out _ B6).2).mono ?_; rintro e w7 ⟨rfl, b7⟩
  have B7 := keepC B6 b7
  obtain ⟨⟨c0, c1, c2⟩, _⟩ := (R.out _ B7).cells
  go_wp2_with fail
  refine (Fold_v d 182621 (by omega) (by omega) _ 182621 rfl).mono ?_; rintro e w' ⟨j, rfl, hj, rfl⟩
  obtain ⟨Y, M, D, V, d1, d2, _, d3, _⟩ := date_back j hj
  clear c0 c1 c2
  go_wp2_with fail
  refine (d1.out _).mono ?_; rintro e w8 ⟨rfl, b8⟩
  have B8 := keepC B7 b8
  have B9 := keepC B8 (below_new w8 (.cells #[.int .i64 Y, .int .i64 M, .int .i64 D] 23))
  have x9 := DBox.new w8 Y M D
  have X9 := Lib.hid x9
  go_wp2_with fail
  refine (d2.out _ (HT.out _ B9).1).mono ?_; rintro e w10 ⟨rfl, b10⟩
  have B10 := keepC B9 b10
  go_wp2_with fail
  refine (d3.out _ (HT.out _ B10).1 (HT.out _ B10).2).mono ?_; rintro e w11 ⟨rfl, b11⟩
  have B11 := keepC B10 b11
  have B12 := keepC B11 (below_new w11 (.cells #[.int .i64 Y, .int .i64 M, .int .i64 D] 23))
  have x12 : DBox (w11.alloc (.cells #[.int .i64 Y, .int .i64 M, .int .i64 D] 23)) w8.heap.size Y M D := ((X9.out.below b10).below b11).below (below_new _ _)
  obtain ⟨⟨k0, k1, k2⟩, _⟩ := x12.cells
  clear x9 x12
  go_wp2_with fail
  refine (awake_v _ (HT.out _ B12).1).mono ?_; rintro e w13 ⟨rfl, b13⟩
  have BE := keepC B12 b13
  go_wp2_with fail
  go_ret
  exact ⟨rfl, B0.trans (BE.mono B0.size)⟩
end Go.Proofs.YtffnmejabphabaaDoor
