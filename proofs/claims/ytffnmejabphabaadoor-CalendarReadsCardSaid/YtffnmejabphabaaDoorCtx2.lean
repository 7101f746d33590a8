import Derived.Test.YtffnmejabphabaaDoorCtxM
/- The texts of dates, of package calendar and of its reference. -/
namespace Go.Proofs.YtffnmejabphabaaDoor
open Go.RowKit Go.Sort

set_option maxHeartbeats 8000000 in
theorem FormatDate_in (k r i : Nat) (hk : k < 500) (hr : r < 12) (h1 : 1 ≤ i) (h2 : (i : Int) ≤ mlI (1900 + (k : Int)) ((r : Int) + 1)) (w : World) (htab : Tab w) :
    Calls Tryd.prog 39 #[.agg #[.int .i64 (1900 + (k : Int)), .int .i64 ((r : Int) + 1), .int .i64 (i : Int)]] w fun e w' => e = .returned (.string (dayT k r i)) ∧ Below w.heap.size w w' := by
  have hm := mlI_bd (1900 + (k : Int)) ((r : Int) + 1)
  have hi100 : i < 100 := by omega
  have hv := ValidDate_in k r (i : Int) hk hr (by omega) h2
  have hp := periodNumber_v k r hr hk
  obtain ⟨P, hP⟩ : ∃ P : Int, P = 12 * (k : Int) + (r : Int) := ⟨_, rfl⟩
  have hf := fun w h => FormatPeriod_in P k r hP hr hk w h
  have ht2 := twoDigits_v i hi100
  obtain ⟨T, hT⟩ : ∃ T, T = perT k r := ⟨_, rfl⟩
  obtain ⟨U, hU⟩ : ∃ U : ByteArray, U = ⟨(tw i).toArray⟩ := ⟨_, rfl⟩
  have hTs : T.size = 7 := by rw [hT]; rfl
  have hUs : U.size = 2 := by rw [hU]; rfl
  have HD : Hid (T ++ (⟨#[45]⟩ : ByteArray) ++ U = dayT k r i) := by
    rw [hT, hU]
    exact (congrArg (· ++ (⟨(tw i).toArray⟩ : ByteArray)) (bs_app (perL k r) [45])).trans (bs_app _ _)
  rw [← hT] at hf
  rw [← hU] at ht2
  rw [← hP] at hp
  obtain ⟨y, hy⟩ : ∃ y : Int, y = 1900 + (k : Int) := ⟨_, rfl⟩
  obtain ⟨m, hmm⟩ : ∃ m : Int, m = (r : Int) + 1 := ⟨_, rfl⟩
  obtain ⟨d, hd⟩ : ∃ d : Int, d = (i : Int) := ⟨_, rfl⟩
  rw [← hy, ← hmm, ← hd] at hv
  rw [← hy, ← hmm] at hp
  rw [← hd] at ht2
  rw [← hy, ← hmm, ← hd]
  have HV := Lib.hid hv
  have HPN := Lib.hid hp
  have HF := Lib.hid hf
  have H2 := Lib.hid ht2
  have B0 := below_new w (.cells #[.int .i64 y, .int .i64 m, .int .i64 d] 23)
  have HTab := Lib.hid htab
  clear hv hp hf ht2 hy hmm hd hP hT hU hm h1 h2 htab hi100
  go_enter Tryd.func39, Tryd.ntmps39
  go_wp2_with fail
  refine (HV.out _).mono ?_; rintro e W1 ⟨rfl, b1⟩
  have c0 : W1.cell? ⟨w.heap.size, 0, none⟩ = some (.int .i64 y) := (b1.cell (p := ⟨w.heap.size, 0, none⟩) (by simp)).trans (World.cell?_alloc_mark w _ _ (0, 0) 0)
  have c1 : W1.cell? ⟨w.heap.size, 1, none⟩ = some (.int .i64 m) := (b1.cell (p := ⟨w.heap.size, 1, none⟩) (by simp)).trans (World.cell?_alloc_mark w _ _ (0, 0) 1)
  have c2 : W1.cell? ⟨w.heap.size, 2, none⟩ = some (.int .i64 d) := (b1.cell (p := ⟨w.heap.size, 2, none⟩) (by simp)).trans (World.cell?_alloc_mark w _ _ (0, 0) 2)
  have B1 := B0.trans (b1.mono B0.size)
  have K : Hid (∀ w', Below W1.heap.size W1 w' → w'.cell? ⟨w.heap.size, 0, none⟩ = some (.int .i64 y) ∧ w'.cell? ⟨w.heap.size, 1, none⟩ = some (.int .i64 m) ∧ w'.cell? ⟨w.heap.size, 2, none⟩ = some (.int .i64 d) ∧ Tab w' ∧ Below W1.heap.size W1 w') := fun w' g => ⟨cellB c0 g, cellB c1 g, cellB c2 g, (HTab.out.below B1).below g, g⟩
  go_wp2_with fail
  go_region_held3 (fun w' => w'.cell? ⟨w.heap.size, 0, none⟩ = some (.int .i64 y) ∧ w'.cell? ⟨w.heap.size, 1, none⟩ = some (.int .i64 m) ∧ w'.cell? ⟨w.heap.size, 2, none⟩ = some (.int .i64 d) ∧ Tab w' ∧ Below W1.heap.size W1 w')
    (first | exact K.out _ (Below.refl _ _).drew | exact K.out _ (Below.refl _ _) | exact K.out _ (keepC (by assumption) g1.below) | exact K.out _ (by assumption))
    (first
      | (go_at_call 49; go_split_ands; refine (HPN.out _).mono ?_; rintro e w1 ⟨rfl, rfl⟩)
      | (go_at_call 40; go_split_ands; refine (HF.out _ (by assumption)).mono ?_; rintro e w2 ⟨rfl, g1⟩; have GW : Below W1.heap.size W1 w2 := keepC (by assumption) g1.below)
      | (go_at_call 59; go_split_ands; refine (H2.out _).mono ?_; rintro e w3 ⟨rfl, rfl⟩))
  go_wp2_with fail
  go_ret
  first | exact ⟨ret_strc HD.out, B1.trans (GW.mono B1.size)⟩ | exact ⟨ret_strc HD.out, B1.trans (((below_drewN GW _)).mono B1.size)⟩
theorem FormatDate_out (y m d : Int) (h : vdI y m d = false) (w : World) :
    Calls Tryd.prog 39 #[.agg #[.int .i64 y, .int .i64 m, .int .i64 d]] w fun e w' => e = .returned (.string ⟨#[]⟩) ∧ Below w.heap.size w w' := by
  have HV := Lib.hid (ValidDate_out y m d h)
  have B0 := below_new w (.cells #[.int .i64 y, .int .i64 m, .int .i64 d] 23)
  clear h
  go_enter Tryd.func39, Tryd.ntmps39
  go_wp2_with fail
  refine (HV.out _).mono ?_; rintro e w1 ⟨rfl, b1⟩
  have B1 := B0.trans (b1.mono B0.size)
  go_wp2_with fail
  go_ret
  exact ⟨rfl, B1⟩

set_option maxHeartbeats 16000000 in
theorem rFormatDate_in (k r i : Nat) (hk : k < 500) (hr : r < 12) (h1 : 1 ≤ i) (h2 : (i : Int) ≤ mlI (1900 + (k : Int)) ((r : Int) + 1)) (w : World) :
    Calls Tryd.prog 41 #[.agg #[.int .i64 (1900 + (k : Int)), .int .i64 ((r : Int) + 1), .int .i64 (i : Int)]] w fun e w' => e = .returned (.string (dayT k r i)) ∧ Below w.heap.size w w' := by
  have hm := mlI_bd (1900 + (k : Int)) ((r : Int) + 1)
  have hv := rValidDate_in k r (i : Int) hk hr (by omega) h2
  obtain ⟨y, hy⟩ : ∃ y : Int, y = 1900 + (k : Int) := ⟨_, rfl⟩
  obtain ⟨m, hmm⟩ : ∃ m : Int, m = (r : Int) + 1 := ⟨_, rfl⟩
  obtain ⟨d, hd⟩ : ∃ d : Int, d = (i : Int) := ⟨_, rfl⟩
  rw [← hy, ← hmm, ← hd] at hv
  rw [← hy, ← hmm, ← hd]
  obtain ⟨x1, hx1⟩ : ∃ x : Int, y / 100 = x := ⟨_, rfl⟩
  obtain ⟨x2, hx2⟩ : ∃ x : Int, y % 100 = x := ⟨_, rfl⟩
  have a1 := two_v x1 ((1900 + k) / 100) (by omega) (by omega)
  have a2 := two_v x2 ((1900 + k) % 100) (by omega) (by omega)
  have a3 := two_v m (r + 1) (by omega) (by omega)
  have a4 := two_v d i (by omega) (by omega)
  have hne : ∃ z1 z2 z3 z4 : Int, z1 = x1 ∧ z2 = x2 ∧ z3 = m ∧ z4 = d := ⟨_, _, _, _, rfl, rfl, rfl, rfl⟩
  obtain ⟨T1, hT1⟩ : ∃ U : ByteArray, U = ⟨(tw ((1900 + k) / 100)).toArray⟩ := ⟨_, rfl⟩
  obtain ⟨T2, hT2⟩ : ∃ U : ByteArray, U = ⟨(tw ((1900 + k) % 100)).toArray⟩ := ⟨_, rfl⟩
  obtain ⟨T3, hT3⟩ : ∃ U : ByteArray, U = ⟨(tw (r + 1)).toArray⟩ := ⟨_, rfl⟩
  obtain ⟨T4, hT4⟩ : ∃ U : ByteArray, U = ⟨(tw i).toArray⟩ := ⟨_, rfl⟩
  have s1 : T1.size = 2 := by rw [hT1]; rfl
  have s2 : T2.size = 2 := by rw [hT2]; rfl
  have s3 : T3.size = 2 := by rw [hT3]; rfl
  have s4 : T4.size = 2 := by rw [hT4]; rfl
  have HD : Hid (T1 ++ T2 ++ (⟨#[45]⟩ : ByteArray) ++ T3 ++ (⟨#[45]⟩ : ByteArray) ++ T4 = dayT k r i) := by
    unfold Hid
    rw [hT1, hT2, hT3, hT4, bs_app]
    refine (congrArg (fun s : ByteArray => s ++ (⟨(tw (r + 1)).toArray⟩ : ByteArray) ++ (⟨#[45]⟩ : ByteArray) ++ (⟨(tw i).toArray⟩ : ByteArray)) (bs_app _ [45])).trans ?_
    rw [bs_app]
    exact (congrArg (· ++ (⟨(tw i).toArray⟩ : ByteArray)) (bs_app (perL k r) [45])).trans (bs_app _ _)
  rw [← hT1] at a1
  rw [← hT2] at a2
  rw [← hT3] at a3
  rw [← hT4] at a4
  have HV := Lib.hid hv
  have A1 := Lib.hid a1
  have A2 := Lib.hid a2
  have A3 := Lib.hid a3
  have A4 := Lib.hid a4
  have y0 : 0 ≤ y := by omega
  have y1 : y ≤ 3000 := by omega
  have q1 : y.tdiv 100 = x1 := by rw [Int.tdiv_eq_ediv_of_nonneg y0]; exact hx1
  have q2 : y.tmod 100 = x2 := by rw [Int.tmod_eq_emod_of_nonneg y0]; exact hx2
  have p1 : IntKind.i64.wrap x1 = x1 := IntWalk.i64_in _ (by omega)
  have p2 : IntKind.i64.wrap x2 = x2 := IntWalk.i64_in _ (by omega)
  have B0 := below_new w (.cells #[.int .i64 y, .int .i64 m, .int .i64 d] 23)
  clear hv a1 a2 a3 a4 hy hmm hd hT1 hT2 hT3 hT4 hm h1 h2 hne
  go_enter Tryd.func41, Tryd.ntmps41
  go_wp2_with fail
  refine (HV.out _).mono ?_; rintro e W1 ⟨rfl, b1⟩
  have c0 : W1.cell? ⟨w.heap.size, 0, none⟩ = some (.int .i64 y) := (b1.cell (p := ⟨w.heap.size, 0, none⟩) (by simp)).trans (World.cell?_alloc_mark w _ _ (0, 0) 0)
  have c1 : W1.cell? ⟨w.heap.size, 1, none⟩ = some (.int .i64 m) := (b1.cell (p := ⟨w.heap.size, 1, none⟩) (by simp)).trans (World.cell?_alloc_mark w _ _ (0, 0) 1)
  have c2 : W1.cell? ⟨w.heap.size, 2, none⟩ = some (.int .i64 d) := (b1.cell (p := ⟨w.heap.size, 2, none⟩) (by simp)).trans (World.cell?_alloc_mark w _ _ (0, 0) 2)
  have B1 := B0.trans (b1.mono B0.size)
  have K : Hid (∀ w', Below W1.heap.size W1 w' → w'.cell? ⟨w.heap.size, 0, none⟩ = some (.int .i64 y) ∧ w'.cell? ⟨w.heap.size, 1, none⟩ = some (.int .i64 m) ∧ w'.cell? ⟨w.heap.size, 2, none⟩ = some (.int .i64 d) ∧ Below W1.heap.size W1 w') := fun w' g => ⟨cellB c0 g, cellB c1 g, cellB c2 g, g⟩
  go_wp2_with fail
  go_region_held3 (fun w' => w'.cell? ⟨w.heap.size, 0, none⟩ = some (.int .i64 y) ∧ w'.cell? ⟨w.heap.size, 1, none⟩ = some (.int .i64 m) ∧ w'.cell? ⟨w.heap.size, 2, none⟩ = some (.int .i64 d) ∧ Below W1.heap.size W1 w')
    (first | exact K.out _ (Below.refl _ _).drew | exact K.out _ (Below.refl _ _) | exact K.out _ (keepC (by assumption) g1) | exact K.out _ (keepC (by assumption) g2) | exact K.out _ (keepC (by assumption) g3) | exact K.out _ (keepC (by assumption) g4))
    (first
      | (go_at_call_of 61 (Value.int .i64 x1); go_split_ands; refine (A1.out _).mono ?_; rintro e w1 ⟨rfl, g1⟩)
      | (go_at_call_of 61 (Value.int .i64 x2); go_split_ands; refine (A2.out _).mono ?_; rintro e w2 ⟨rfl, g2⟩)
      | (go_at_call_of 61 (Value.int .i64 m); go_split_ands; refine (A3.out _).mono ?_; rintro e w3 ⟨rfl, g3⟩)
      | (go_at_call_of 61 (Value.int .i64 d); go_split_ands; refine (A4.out _).mono ?_; rintro e w4 ⟨rfl, g4⟩; have GW : Below W1.heap.size W1 w4 := keepC (by assumption) g4))
  go_wp2_with fail
  go_ret
  exact ⟨ret_strc HD.out, B1.trans (GW.mono B1.size)⟩
theorem rFormatDate_out (y m d : Int) (h : vdI y m d = false) (w : World) :
    Calls Tryd.prog 41 #[.agg #[.int .i64 y, .int .i64 m, .int .i64 d]] w fun e w' => e = .returned (.string ⟨#[]⟩) ∧ Below w.heap.size w w' := by
  have HV := Lib.hid (rValidDate_out y m d h)
  have B0 := below_new w (.cells #[.int .i64 y, .int .i64 m, .int .i64 d] 23)
  clear h
  go_enter Tryd.func41, Tryd.ntmps41
  go_wp2_with fail
  refine (HV.out _).mono ?_; rintro e w1 ⟨rfl, b1⟩
  have B1 := B0.trans (b1.mono B0.size)
  go_wp2_with fail
  go_ret
  exact ⟨rfl, B1⟩
end Go.Proofs.YtffnmejabphabaaDoor
