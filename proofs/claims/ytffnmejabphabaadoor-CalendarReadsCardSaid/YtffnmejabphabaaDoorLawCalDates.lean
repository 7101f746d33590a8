import Derived.Test.YtffnmejabphabaaDoorCal7
/- CalendarDates: the walk. -/
namespace Go.Proofs.YtffnmejabphabaaDoor
open Go.RowKit Go.Sort

theorem keepC {A w w2 : World} (h : Below A.heap.size A w) (b : Below w.heap.size w w2) : Below A.heap.size A w2 := h.trans (b.mono h.size)
theorem cellB {A w : World} {p : Addr} {v : Value} (h : A.cell? p = some v) (b : Below A.heap.size A w) : w.cell? p = some v := (b.cell (World.block_lt_of_cell? _ _ h)).trans h

set_option maxHeartbeats 8000000 in
theorem dates_walk (y m d n : Int) (v : Bool) (w : World) (htab : Tab w)
    (HV : Hid (∀ w, Calls Tryd.prog 14 #[.agg #[.int .i64 y, .int .i64 m, .int .i64 d]] w fun e w' => e = .returned (.bool v) ∧ Below w.heap.size w w'))
    (HR : Hid (∀ w, Calls Tryd.prog 15 #[.agg #[.int .i64 y, .int .i64 m, .int .i64 d]] w fun e w' => e = .returned (.bool v) ∧ Below w.heap.size w w'))
    (HN : Hid (∀ w, Calls Tryd.prog 16 #[.agg #[.int .i64 y, .int .i64 m, .int .i64 d]] w fun e w' => e = .returned (.int .i64 n) ∧ Below w.heap.size w w'))
    (HM : Hid (∀ w, Calls Tryd.prog 17 #[.agg #[.int .i64 y, .int .i64 m, .int .i64 d]] w fun e w' => e = .returned (.int .i64 n) ∧ Below w.heap.size w w')) :
    Calls Tryd.prog 3 #[.agg #[.int .i64 y, .int .i64 m, .int .i64 d]] w fun e w' => e = .returned (.bool true) ∧ Below w.heap.size w w' := by
  obtain ⟨W1, hW1⟩ : ∃ W1, W1 = w.alloc (.cells #[.int .i64 y, .int .i64 m, .int .i64 d] 23) := ⟨_, rfl⟩
  have B0 := below_new w (.cells #[.int .i64 y, .int .i64 m, .int .i64 d] 23)
  have c0 : W1.cell? ⟨w.heap.size, 0, none⟩ = some (.int .i64 y) := by rw [hW1]; exact World.cell?_alloc_mark w _ _ (0, 0) 0
  have c1 : W1.cell? ⟨w.heap.size, 1, none⟩ = some (.int .i64 m) := by rw [hW1]; exact World.cell?_alloc_mark w _ _ (0, 0) 1
  have c2 : W1.cell? ⟨w.heap.size, 2, none⟩ = some (.int .i64 d) := by rw [hW1]; exact World.cell?_alloc_mark w _ _ (0, 0) 2
  have ht : Tab W1 := by rw [hW1]; exact htab.alloc _
  rw [← hW1] at B0
  have K : Hid (∀ w', Below W1.heap.size W1 w' → w'.cell? ⟨w.heap.size, 0, none⟩ = some (.int .i64 y) ∧ w'.cell? ⟨w.heap.size, 1, none⟩ = some (.int .i64 m) ∧ w'.cell? ⟨w.heap.size, 2, none⟩ = some (.int .i64 d) ∧ Tab w' ∧ Below W1.heap.size W1 w') :=
    fun w' g => ⟨cellB c0 g, cellB c1 g, cellB c2 g, ht.below g, g⟩
  have HW := Lib.hid hW1
  clear htab hW1 ht
  go_enter Tryd.func3, Tryd.ntmps3
  go_wp2_with fail
  rw [← HW.out]
  go_region_held3 (fun w' => w'.cell? ⟨w.heap.size, 0, none⟩ = some (.int .i64 y) ∧ w'.cell? ⟨w.heap.size, 1, none⟩ = some (.int .i64 m) ∧ w'.cell? ⟨w.heap.size, 2, none⟩ = some (.int .i64 d) ∧ Tab w' ∧ Below W1.heap.size W1 w')
    (first | exact K.out _ (Below.refl _ _).drew | exact K.out _ (Below.refl _ _) | exact K.out _ (keepC (by assumption) b1) | exact K.out _ (keepC (by assumption) b2) | exact K.out _ (keepC (by assumption) b3) | exact K.out _ (keepC (by assumption) b4) | exact K.out _ (keepC (by assumption) b5))
    (first
      | (go_at_call 14; go_split_ands; refine (HV.out _).mono ?_; rintro e w1 ⟨rfl, b1⟩)
      | (go_at_call 15; go_split_ands; refine (HR.out _).mono ?_; rintro e w2 ⟨rfl, b2⟩)
      | (go_at_call 16; go_split_ands; refine (HN.out _).mono ?_; rintro e w3 ⟨rfl, b3⟩)
      | (go_at_call 17; go_split_ands; refine (HM.out _).mono ?_; rintro e w4 ⟨rfl, b4⟩)
      | (go_at_call 18; go_split_ands; refine (awake_v _ (by assumption)).mono ?_; rintro e w5 ⟨rfl, b5⟩; have BW : Below W1.heap.size W1 w5 := keepC (by assumption) b5))
  go_wp2_with fail
  go_ret
  exact ⟨rfl, B0.trans (BW.mono B0.size)⟩
theorem CalendarDates_any (y m d : Int) (w : World) (htab : Tab w) :
    Calls Tryd.prog 3 #[.agg #[.int .i64 y, .int .i64 m, .int .i64 d]] w fun e w' => e = .returned (.bool true) ∧ Below w.heap.size w w' := by
  cases h : vdI y m d
  · exact dates_walk y m d (-1) false w htab (ValidDate_out y m d h) (rValidDate_out y m d h) (Number_out y m d h) (rNumber_out y m d h)
  · obtain ⟨k, r, hk, hr, rfl, rfl, h1, h2⟩ := vd_true h
    exact dates_walk _ _ d _ true w htab (ValidDate_in k r d hk hr h1 h2) (rValidDate_in k r d hk hr h1 h2) (Number_in k r d hk hr h1 h2) (rNumber_in k r d hk hr h1 h2)
end Go.Proofs.YtffnmejabphabaaDoor
