import Derived.Test.YtffnmejabphabaaDoorCal6
/- Package calendar: dates that are none; numbers of dates and dates of numbers. -/
namespace Go.Proofs.YtffnmejabphabaaDoor
open Go.RowKit Go.Sort

set_option maxHeartbeats 8000000 in
theorem ValidDate_o1 (y m d : Int) (h : y < 1900) (w : World) :
    Calls Tryd.prog 14 #[.agg #[.int .i64 y, .int .i64 m, .int .i64 d]] w fun e w' => e = .returned (.bool false) ∧ Below w.heap.size w w' := by
  have B0 := below_new w (.cells #[.int .i64 y, .int .i64 m, .int .i64 d] 23)
  go_enter Tryd.func14, Tryd.ntmps14
  go_wp2_with fail
  go_ret
  exact ⟨rfl, B0⟩
set_option maxHeartbeats 8000000 in
theorem ValidDate_o2 (y m d : Int) (h0 : 1900 ≤ y) (h : 2399 < y) (w : World) :
    Calls Tryd.prog 14 #[.agg #[.int .i64 y, .int .i64 m, .int .i64 d]] w fun e w' => e = .returned (.bool false) ∧ Below w.heap.size w w' := by
  have B0 := below_new w (.cells #[.int .i64 y, .int .i64 m, .int .i64 d] 23)
  go_enter Tryd.func14, Tryd.ntmps14
  go_wp2_with fail
  go_ret
  exact ⟨rfl, B0⟩
set_option maxHeartbeats 8000000 in
theorem ValidDate_o3 (y m d : Int) (h0 : 1900 ≤ y) (h1 : y ≤ 2399) (h : m < 1) (w : World) :
    Calls Tryd.prog 14 #[.agg #[.int .i64 y, .int .i64 m, .int .i64 d]] w fun e w' => e = .returned (.bool false) ∧ Below w.heap.size w w' := by
  have B0 := below_new w (.cells #[.int .i64 y, .int .i64 m, .int .i64 d] 23)
  go_enter Tryd.func14, Tryd.ntmps14
  go_wp2_with fail
  go_ret
  exact ⟨rfl, B0⟩
set_option maxHeartbeats 8000000 in
theorem ValidDate_o4 (y m d : Int) (h0 : 1900 ≤ y) (h1 : y ≤ 2399) (h2 : 1 ≤ m) (h : 12 < m) (w : World) :
    Calls Tryd.prog 14 #[.agg #[.int .i64 y, .int .i64 m, .int .i64 d]] w fun e w' => e = .returned (.bool false) ∧ Below w.heap.size w w' := by
  have B0 := below_new w (.cells #[.int .i64 y, .int .i64 m, .int .i64 d] 23)
  go_enter Tryd.func14, Tryd.ntmps14
  go_wp2_with fail
  go_ret
  exact ⟨rfl, B0⟩
set_option maxHeartbeats 8000000 in
theorem ValidDate_o5 (y m d : Int) (h0 : 1900 ≤ y) (h1 : y ≤ 2399) (h2 : 1 ≤ m) (h3 : m ≤ 12) (h : d < 1) (w : World) :
    Calls Tryd.prog 14 #[.agg #[.int .i64 y, .int .i64 m, .int .i64 d]] w fun e w' => e = .returned (.bool false) ∧ Below w.heap.size w w' := by
  have a5 : decide (1 ≤ d) = false := by simp; omega
  clear h
  have B0 := below_new w (.cells #[.int .i64 y, .int .i64 m, .int .i64 d] 23)
  go_enter Tryd.func14, Tryd.ntmps14
  go_wp2_with fail
  go_quiet (fail)
  go_wp2_with fail
  go_ret
  exact ⟨rfl, below_drewN B0 _⟩
set_option maxHeartbeats 8000000 in
theorem ValidDate_o6 (y m d : Int) (b1 : 1900 ≤ y) (b2 : y ≤ 2399) (b3 : 1 ≤ m) (b4 : m ≤ 12) (h4 : 1 ≤ d) (h : mlI y m < d) (w : World) :
    Calls Tryd.prog 14 #[.agg #[.int .i64 y, .int .i64 m, .int .i64 d]] w fun e w' => e = .returned (.bool false) ∧ Below w.heap.size w w' := by
  have a5 : decide (1 ≤ d) = true := by simp; omega
  have a6 : decide (d ≤ mlI y m) = false := by simp; omega
  clear h4 h
  obtain ⟨W1, hW1⟩ : ∃ W1, W1 = w.alloc (.cells #[.int .i64 y, .int .i64 m, .int .i64 d] 23) := ⟨_, rfl⟩
  have B0 := below_new w (.cells #[.int .i64 y, .int .i64 m, .int .i64 d] 23)
  have c0 : W1.cell? ⟨w.heap.size, 0, none⟩ = some (.int .i64 y) := by rw [hW1]; exact World.cell?_alloc_mark w _ _ (0, 0) 0
  have c1 : W1.cell? ⟨w.heap.size, 1, none⟩ = some (.int .i64 m) := by rw [hW1]; exact World.cell?_alloc_mark w _ _ (0, 0) 1
  have c2 : W1.cell? ⟨w.heap.size, 2, none⟩ = some (.int .i64 d) := by rw [hW1]; exact World.cell?_alloc_mark w _ _ (0, 0) 2
  have K : Hid (∀ w', Gr W1 w' → w'.cell? ⟨w.heap.size, 0, none⟩ = some (.int .i64 y) ∧ w'.cell? ⟨w.heap.size, 1, none⟩ = some (.int .i64 m) ∧ w'.cell? ⟨w.heap.size, 2, none⟩ = some (.int .i64 d) ∧ Gr W1 w') := fun w' g => ⟨g.cell c0, g.cell c1, g.cell c2, g⟩
  have HL := Lib.hid (monthLength_v y m b1 b2 b3 b4)
  have HW := Lib.hid hW1
  go_enter Tryd.func14, Tryd.ntmps14
  go_wp2_with fail
  rw [← HW.out]
  rw [← hW1] at B0
  clear hW1
  go_region_held3 (fun w' => w'.cell? ⟨w.heap.size, 0, none⟩ = some (.int .i64 y) ∧ w'.cell? ⟨w.heap.size, 1, none⟩ = some (.int .i64 m) ∧ w'.cell? ⟨w.heap.size, 2, none⟩ = some (.int .i64 d) ∧ Gr W1 w')
    (first | exact K.out _ (Gr.refl _).drew | exact K.out _ (Gr.refl _) | exact K.out _ (Gr.trans (by assumption) g1))
    (first | (go_at_call 47; go_split_ands; refine (HL.out _).mono ?_; rintro e w1 ⟨rfl, g1⟩; have GW : Gr W1 w1 := Gr.trans (by assumption) g1))
  go_wp2_with fail
  go_ret
  exact ⟨rfl, B0.trans (GW.below.mono B0.size)⟩
theorem ValidDate_out (y m d : Int) (h : vdI y m d = false) (w : World) :
    Calls Tryd.prog 14 #[.agg #[.int .i64 y, .int .i64 m, .int .i64 d]] w fun e w' => e = .returned (.bool false) ∧ Below w.heap.size w w' := by
  by_cases h0 : y < 1900
  · exact ValidDate_o1 y m d h0 w
  rcases vd_false h with h | h | ⟨h0, h1, h | h | ⟨h2, h3, h | ⟨h4, h⟩⟩⟩
  · exact absurd h h0
  · exact ValidDate_o2 y m d (by omega) h w
  · exact ValidDate_o3 y m d h0 h1 h w
  · by_cases h2 : m < 1
    · exact ValidDate_o3 y m d h0 h1 h2 w
    · exact ValidDate_o4 y m d h0 h1 (by omega) h w
  · exact ValidDate_o5 y m d h0 h1 h2 h3 h w
  · exact ValidDate_o6 y m d h0 h1 h2 h3 h4 h w

set_option maxHeartbeats 8000000 in
theorem Number_in (k r : Nat) (d : Int) (hk : k < 500) (hr : r < 12) (h1 : 1 ≤ d) (h2 : d ≤ mlI (1900 + (k : Int)) ((r : Int) + 1)) (w : World) :
    Calls Tryd.prog 16 #[.agg #[.int .i64 (1900 + (k : Int)), .int .i64 ((r : Int) + 1), .int .i64 d]] w fun e w' => e = .returned (.int .i64 (fst (12 * k + r) + d - 1)) ∧ Below w.heap.size w w' := by
  have hm := mlI_bd (1900 + (k : Int)) ((r : Int) + 1)
  have hv := ValidDate_in k r d hk hr h1 h2
  have hp := periodNumber_v k r hr hk
  obtain ⟨P, hP⟩ : ∃ P : Int, P = 12 * (k : Int) + (r : Int) := ⟨_, rfl⟩
  have hf := FirstDay_in P k r hP hr hk
  obtain ⟨F, hF⟩ : ∃ F, F = fst (12 * k + r) := ⟨_, rfl⟩
  have hb := fst_bd (12 * k + r)
  rw [← hF] at hf hb ⊢
  rw [← hP] at hp
  obtain ⟨y, hy⟩ : ∃ y : Int, y = 1900 + (k : Int) := ⟨_, rfl⟩
  obtain ⟨m, hmm⟩ : ∃ m : Int, m = (r : Int) + 1 := ⟨_, rfl⟩
  rw [← hy, ← hmm] at hv hp ⊢
  have e5 : IntKind.i64.wrap (F + d) = F + d := IntWalk.i64_in _ (by omega)
  have e6 : IntKind.i64.wrap (F + d - 1) = F + d - 1 := IntWalk.i64_in _ (by omega)
  have HV := Lib.hid hv
  have HPN := Lib.hid hp
  have HF := Lib.hid hf
  have B0 := below_new w (.cells #[.int .i64 y, .int .i64 m, .int .i64 d] 23)
  clear hv hp hf hy hmm hP hF hm h1 h2 hb
  go_enter Tryd.func16, Tryd.ntmps16
  go_wp2_with fail
  refine (HV.out _).mono ?_; rintro e W1 ⟨rfl, b1⟩
  have c0 : W1.cell? ⟨w.heap.size, 0, none⟩ = some (.int .i64 y) := (b1.cell (p := ⟨w.heap.size, 0, none⟩) (by simp)).trans (World.cell?_alloc_mark w _ _ (0, 0) 0)
  have c1 : W1.cell? ⟨w.heap.size, 1, none⟩ = some (.int .i64 m) := (b1.cell (p := ⟨w.heap.size, 1, none⟩) (by simp)).trans (World.cell?_alloc_mark w _ _ (0, 0) 1)
  have c2 : W1.cell? ⟨w.heap.size, 2, none⟩ = some (.int .i64 d) := (b1.cell (p := ⟨w.heap.size, 2, none⟩) (by simp)).trans (World.cell?_alloc_mark w _ _ (0, 0) 2)
  have K : Hid (∀ w', Gr W1 w' → w'.cell? ⟨w.heap.size, 0, none⟩ = some (.int .i64 y) ∧ w'.cell? ⟨w.heap.size, 1, none⟩ = some (.int .i64 m) ∧ w'.cell? ⟨w.heap.size, 2, none⟩ = some (.int .i64 d) ∧ Gr W1 w') := fun w' g => ⟨g.cell c0, g.cell c1, g.cell c2, g⟩
  have B1 := B0.trans (b1.mono B0.size)
  go_wp2_with fail
  go_region_held3 (fun w' => w'.cell? ⟨w.heap.size, 0, none⟩ = some (.int .i64 y) ∧ w'.cell? ⟨w.heap.size, 1, none⟩ = some (.int .i64 m) ∧ w'.cell? ⟨w.heap.size, 2, none⟩ = some (.int .i64 d) ∧ Gr W1 w')
    (first | exact K.out _ (Gr.refl _).drew | exact K.out _ (Gr.refl _) | exact K.out _ (Gr.trans (by assumption) g1) | exact K.out _ (by assumption))
    (first
      | (go_at_call 49; go_split_ands; refine (HPN.out _).mono ?_; rintro e w1 ⟨rfl, rfl⟩)
      | (go_at_call 28; go_split_ands; refine (HF.out _).mono ?_; rintro e w2 ⟨rfl, g1⟩; have GW : Gr W1 w2 := Gr.trans (by assumption) g1))
  go_wp2_with fail
  go_ret
  exact ⟨rfl, B1.trans (GW.below.mono B1.size)⟩
theorem Number_out (y m d : Int) (h : vdI y m d = false) (w : World) :
    Calls Tryd.prog 16 #[.agg #[.int .i64 y, .int .i64 m, .int .i64 d]] w fun e w' => e = .returned (.int .i64 (-1)) ∧ Below w.heap.size w w' := by
  have HV := Lib.hid (ValidDate_out y m d h)
  have B0 := below_new w (.cells #[.int .i64 y, .int .i64 m, .int .i64 d] 23)
  clear h
  go_enter Tryd.func16, Tryd.ntmps16
  go_wp2_with fail
  refine (HV.out _).mono ?_; rintro e w1 ⟨rfl, b1⟩
  have B1 := B0.trans (b1.mono B0.size)
  go_wp2_with fail
  go_ret
  exact ⟨rfl, B1⟩

set_option maxHeartbeats 8000000 in
theorem DateOf_in (d : Int) (k r : Nat) (h : Per (12 * k + r) d) (hk : k < 500) (hr : r < 12) (w : World) :
    Calls Tryd.prog 20 #[.int .i64 d] w fun e w' => e = .returned (.tuple #[.agg #[.int .i64 (1900 + (k : Int)), .int .i64 ((r : Int) + 1), .int .i64 (d - fst (12 * k + r) + 1)], .bool true]) ∧ Below w.heap.size w w' := by
  obtain ⟨n, hn⟩ : ∃ n, n = 12 * k + r := ⟨_, rfl⟩
  have hb := fst_bd n
  have hn6 : n < 6000 := by omega
  have hp : (n : Int) = 12 * (k : Int) + (r : Int) := by omega
  have hy := yearOf_v (n : Int) k r hp hr hk
  have hmn := Month_in (n : Int) k r hp hr hk
  rw [← hn] at h ⊢
  have h0 : 0 ≤ d := by have := h.1; omega
  have h1 : d ≤ 182620 := by have := h.2; have := fst_mono (show n + 1 ≤ 6000 by omega); rw [fst_end] at this; omega
  have h2 : fst n ≤ d := h.1
  have HP := Lib.hid (PeriodOf_in d n h hn6)
  have HF := Lib.hid (FirstDay_n (n : Int) n rfl hn6)
  have HY := Lib.hid hy
  have HM := Lib.hid hmn
  have B0 := below_new w (.cells #[.int .i64 0, .int .i64 0, .int .i64 0] 23)
  clear h hn hp hy hmn
  go_enter Tryd.func20, Tryd.ntmps20
  go_wp2_with fail
  refine (validDay_in _ h0 h1 _).mono ?_; rintro e w' ⟨rfl, rfl⟩
  go_wp2_with fail
  refine (HP.out _).mono ?_; rintro e w1 ⟨rfl, b1⟩
  have B1 := B0.trans (b1.mono B0.size)
  go_wp2_with fail
  refine (HY.out _).mono ?_; rintro e w' ⟨rfl, rfl⟩
  go_wp2_with fail
  refine (HM.out _).mono ?_; rintro e w' ⟨rfl, rfl⟩
  go_wp2_with fail
  refine (HF.out _).mono ?_; rintro e w2 ⟨rfl, g⟩
  have b2 : Below w.heap.size w w2 := B1.trans (g.below.mono B1.size)
  have b3 := b1.trans (g.below.mono b1.size)
  obtain ⟨hc, hf⟩ := bcellc b3
  have hz : w.heap.size < w2.heap.size := by have := b3.size; simp at this; omega
  go_wp2_with fail
  refine bodyPost_ret (v := .tuple #[.agg #[.int .i64 (1900 + (k : Int)), .int .i64 ((r : Int) + 1), .int .i64 (d - fst n + 1)], .bool true]) (by simp [results, Tryd.results20, go_sem, hc]) rfl ?_
  refine ⟨rfl, ?_⟩
  first | exact b2 | exact b2.setCell (Nat.le_refl _) _ | exact ((b2.setCell (Nat.le_refl _) _).setCell (Nat.le_refl _) _).setCell (Nat.le_refl _) _
theorem DateOf_out (d : Int) (h : d < 0 ∨ 182620 < d) (w : World) :
    Calls Tryd.prog 20 #[.int .i64 d] w fun e w' => e = .returned (.tuple #[.agg #[.int .i64 0, .int .i64 0, .int .i64 0], .bool false]) ∧ Below w.heap.size w w' := by
  have B0 := below_new w (.cells #[.int .i64 0, .int .i64 0, .int .i64 0] 23)
  go_enter Tryd.func20, Tryd.ntmps20
  go_wp2_with fail
  refine (validDay_out d h _).mono ?_; rintro e w' ⟨rfl, rfl⟩
  go_wp2_with fail
  refine bodyPost_ret (v := .tuple #[.agg #[.int .i64 0, .int .i64 0, .int .i64 0], .bool false]) (by simp [results, Tryd.results20, go_sem]) rfl ?_
  exact ⟨rfl, B0⟩

theorem perT_awake : perT 100 1 = ⟨#[50, 48, 48, 48, 45, 48, 50]⟩ := by rfl
set_option maxHeartbeats 4000000 in
theorem awake_v (w : World) (htab : Tab w) : Calls Tryd.prog 18 #[] w fun e w' => e = .returned (.bool true) ∧ Below w.heap.size w w' := by
  have hn := Number_in 100 1 29 (by omega) (by omega) (by omega) (by decide)
  rw [show 12 * 100 + 1 = 1201 by rfl, fst_1201] at hn
  have HN := Lib.hid hn
  have HF := Lib.hid (fun w h => FormatPeriod_in 1201 100 1 (by omega) (by omega) (by omega) w h)
  have HT := Lib.hid htab
  clear hn htab
  go_enter Tryd.func18, Tryd.ntmps18
  go_wp2_with fail
  refine (HN.out _).mono ?_; rintro e w1 ⟨rfl, b1⟩
  have ht := HT.out.below b1
  go_wp2_with fail
  refine (HF.out _ ht).mono ?_; rintro e w2 ⟨rfl, g⟩
  rw [perT_awake]
  go_wp2_with fail
  go_ret
  exact ⟨rfl, b1.trans (g.below.mono b1.size)⟩
end Go.Proofs.YtffnmejabphabaaDoor
