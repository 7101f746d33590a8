import Derived.Test.YtffnmejabphabaaDoorCal4
/- Package calendar over whole numbers: first and last days, the period of a day. -/
namespace Go.Proofs.YtffnmejabphabaaDoor
open Go.RowKit Go.Sort

set_option maxHeartbeats 4000000 in
theorem FirstDay_in (p : Int) (k r : Nat) (hp : p = 12 * (k : Int) + (r : Int)) (hr : r < 12) (hk : k < 500) (w : World) :
    Calls Tryd.prog 28 #[.int .i64 p] w fun e w' => e = .returned (.int .i64 (fst (12 * k + r))) ∧ Gr w w' := by
  have h0 : 0 ≤ p := by omega
  have h1 : p ≤ 5999 := by omega
  have HP := Lib.hid hp
  clear hp
  go_enter Tryd.func28, Tryd.ntmps28
  go_wp2_with fail
  refine (validPeriod_in _ h0 h1 _).mono ?_; rintro e w' ⟨rfl, rfl⟩
  go_wp2_with fail
  refine (yearOf_v _ k r HP.out hr hk _).mono ?_; rintro e w' ⟨rfl, rfl⟩
  go_wp2_with fail
  refine (yearStart_v k hk _).mono ?_; rintro e w' ⟨rfl, rfl⟩
  go_wp2_with fail
  go_loopw [4, 5] (fun s4 s5 wr => ∃ j : Nat, j ≤ r ∧ s4 = .int .i64 (fst (12 * k + j)) ∧ s5 = .int .i64 ((j : Int) + 1) ∧ Gr w wr) (fun _ s5 _ => r + 1 - (intOf s5).toNat)
  case atStart => exact ⟨0, by omega, rfl, rfl, Gr.refl _⟩
  case round =>
    obtain ⟨j, hj, rfl, rfl, hg⟩ := hrel
    have hb := fst_bd (12 * k + j)
    by_cases hlt : j < r
    · have hlp : (j : Int) < (r : Int) := by omega
      have hm := mlI_bd (1900 + (k : Int)) ((j : Int) + 1)
      go_wp2_with fail
      refine (Month_in _ k r HP.out hr hk _).mono ?_; rintro e w' ⟨rfl, rfl⟩
      go_wp2_with fail
      refine (monthLength_v _ _ (by omega) (by omega) (by omega) (by omega) _).mono ?_; rintro e w' ⟨rfl, g1⟩
      go_wp2_with fail
      go_roundw
      case rel => exact ⟨j + 1, by omega, by rw [fst_step k j (by omega)], by go_num, hg.trans g1⟩
      case measure => simp [intOf]; omega
    · have hlp : ¬ (j : Int) < (r : Int) := by omega
      obtain rfl : j = r := by omega
      go_wp2_with fail
      refine (Month_in _ k j HP.out hr hk _).mono ?_; rintro e w' ⟨rfl, rfl⟩
      go_wp2_with fail
      go_ret
      exact ⟨rfl, hg⟩
theorem FirstDay_n (p : Int) (n : Nat) (hp : p = (n : Int)) (hn : n < 6000) (w : World) :
    Calls Tryd.prog 28 #[.int .i64 p] w fun e w' => e = .returned (.int .i64 (fst n)) ∧ Gr w w' := by
  have := FirstDay_in p (n / 12) (n % 12) (by omega) (by omega) (by omega) w
  rwa [show 12 * (n / 12) + n % 12 = n by omega] at this
theorem FirstDay_out (p : Int) (h : p < 0 ∨ 5999 < p) (w : World) :
    Calls Tryd.prog 28 #[.int .i64 p] w fun e w' => e = .returned (.int .i64 (-1)) ∧ w = w' := by
  go_enter Tryd.func28, Tryd.ntmps28
  go_wp2_with fail
  refine (validPeriod_out _ h _).mono ?_; rintro e w' ⟨rfl, rfl⟩
  go_wp2_with fail
  go_ret
  exact ⟨rfl, rfl⟩
set_option maxHeartbeats 4000000 in
theorem LastDay_in (p : Int) (k r : Nat) (hp : p = 12 * (k : Int) + (r : Int)) (hr : r < 12) (hk : k < 500) (w : World) :
    Calls Tryd.prog 30 #[.int .i64 p] w fun e w' => e = .returned (.int .i64 (fst (12 * k + r + 1) - 1)) ∧ Gr w w' := by
  have h0 : 0 ≤ p := by omega
  have h1 : p ≤ 5999 := by omega
  have hb := fst_bd (12 * k + r)
  have hm := mlI_bd (1900 + (k : Int)) ((r : Int) + 1)
  have HE : Hid (fst (12 * k + r) + mlI (1900 + (k : Int)) ((r : Int) + 1) - 1 = fst (12 * k + r + 1) - 1) := by unfold Hid; rw [Nat.add_assoc, fst_step k r hr]
  have HP := Lib.hid hp
  clear hp
  go_enter Tryd.func30, Tryd.ntmps30
  go_wp2_with fail
  refine (validPeriod_in _ h0 h1 _).mono ?_; rintro e w' ⟨rfl, rfl⟩
  go_wp2_with fail
  refine (FirstDay_in _ k r HP.out hr hk _).mono ?_; rintro e w1 ⟨rfl, g1⟩
  go_wp2_with fail
  refine (yearOf_v _ k r HP.out hr hk _).mono ?_; rintro e w' ⟨rfl, rfl⟩
  go_wp2_with fail
  refine (Month_in _ k r HP.out hr hk _).mono ?_; rintro e w' ⟨rfl, rfl⟩
  go_wp2_with fail
  refine (monthLength_v _ _ (by omega) (by omega) (by omega) (by omega) _).mono ?_; rintro e w' ⟨rfl, g2⟩
  go_wp2_with fail
  go_ret
  exact ⟨ret_i64c HE.out, g1.trans g2⟩
theorem LastDay_n (p : Int) (n : Nat) (hp : p = (n : Int)) (hn : n < 6000) (w : World) :
    Calls Tryd.prog 30 #[.int .i64 p] w fun e w' => e = .returned (.int .i64 (fst (n + 1) - 1)) ∧ Gr w w' := by
  have := LastDay_in p (n / 12) (n % 12) (by omega) (by omega) (by omega) w
  rwa [show 12 * (n / 12) + n % 12 = n by omega] at this
theorem LastDay_out (p : Int) (h : p < 0 ∨ 5999 < p) (w : World) :
    Calls Tryd.prog 30 #[.int .i64 p] w fun e w' => e = .returned (.int .i64 (-1)) ∧ w = w' := by
  go_enter Tryd.func30, Tryd.ntmps30
  go_wp2_with fail
  refine (validPeriod_out _ h _).mono ?_; rintro e w' ⟨rfl, rfl⟩
  go_wp2_with fail
  go_ret
  exact ⟨rfl, rfl⟩

set_option maxHeartbeats 4000000 in
/-- the test that sort.Search asks -/
theorem ends_v (B : Nat) (d : Int) (i : Nat) (hi : i < 5999) (W : World) (hc : W.cell? ⟨B, 0, none⟩ = some (.int .i64 d)) :
    Calls Tryd.prog 53 #[.int .i64 (i : Int), .pointer (some ⟨B, 0, none⟩)] W fun e w' => e = .returned (.bool (decide (d ≤ fst (i + 1) - 1))) ∧ Gr W w' := by
  have HL := Lib.hid (LastDay_n (i : Int) i rfl (by omega))
  have K : Hid (∀ w', Gr W w' → w'.cell? ⟨B, 0, none⟩ = some (.int .i64 d) ∧ Gr W w') := fun w' g => ⟨g.cell hc, g⟩
  obtain ⟨x, hx⟩ : ∃ x, x = fst (i + 1) - 1 := ⟨_, rfl⟩
  rw [← hx] at HL ⊢
  clear hx
  go_enter Tryd.func53, Tryd.ntmps53
  go_wp2_with fail
  go_region_held3 (fun w' => w'.cell? ⟨B, 0, none⟩ = some (.int .i64 d) ∧ Gr W w')
    (first | exact K.out _ (Gr.refl _).drew | exact K.out _ (Gr.refl _) | exact K.out _ (Gr.trans (by assumption) g1))
    (first | (go_at_call 30; go_split_ands; refine (HL.out _).mono ?_; rintro e w1 ⟨rfl, g1⟩; have GW : Gr W w1 := Gr.trans (by assumption) g1))
  go_wp2_with fail
  go_ret
  exact ⟨rfl, GW⟩

set_option maxHeartbeats 4000000 in
theorem PeriodOf_in (d : Int) (n : Nat) (h : Per n d) (hn : n < 6000) (w : World) :
    Calls Tryd.prog 24 #[.int .i64 d] w fun e w' => e = .returned (.int .i64 (n : Int)) ∧ Below w.heap.size w w' := by
  have hb0 := fst_bd n
  have h0 : 0 ≤ d := by have := h.1; omega
  have h1 : d ≤ 182620 := by have := h.2; have := fst_mono (show n + 1 ≤ 6000 by omega); rw [fst_end] at this; omega
  obtain ⟨W0, hW0⟩ : ∃ W0, W0 = w.alloc (.cells #[.int .i64 d] 3) := ⟨_, rfl⟩
  have B0 := below_new w (.cells #[.int .i64 d] 3)
  have ca : W0.cell? ⟨w.heap.size, 0, none⟩ = some (.int .i64 d) := by rw [hW0]; exact cell_new_sl w _ _
  have hS := Tryd.sort_Search 53 #[.pointer (some ⟨w.heap.size, 0, none⟩)] 5999 (fun i => decide (d ≤ fst (i + 1) - 1)) W0 (enters_of Tryd.func53 (by kernel_rfl) rfl) (by omega)
    (fun m os i hi => (ends_v w.heap.size d i hi _ (Gr.cell ⟨m, os, rfl⟩ ca)).mono fun _ _ ⟨he, q, os', hq⟩ => ⟨he, q, os', hq⟩)
    (fun a b hab hb h => by have := fst_mono (show a + 1 ≤ b + 1 by omega); simp at h ⊢; omega)
  rw [h.count (by omega)] at hS
  rw [hW0] at hS
  have HS := Lib.hid hS
  clear hS ca hW0 h hb0
  go_enter Tryd.func24, Tryd.ntmps24
  go_wp2_with fail
  refine (validDay_in _ h0 h1 _).mono ?_; rintro e w' ⟨rfl, rfl⟩
  go_wp2_with fail
  refine HS.out.mono ?_; rintro e w' ⟨rfl, g⟩
  go_wp2_with fail
  go_ret
  exact ⟨rfl, B0.trans ((Gr.below g).mono B0.size)⟩
theorem PeriodOf_out (d : Int) (h : d < 0 ∨ 182620 < d) (w : World) :
    Calls Tryd.prog 24 #[.int .i64 d] w fun e w' => e = .returned (.int .i64 (-1)) ∧ Below w.heap.size w w' := by
  have B0 := below_new w (.cells #[.int .i64 d] 3)
  go_enter Tryd.func24, Tryd.ntmps24
  go_wp2_with fail
  refine (validDay_out _ h _).mono ?_; rintro e w' ⟨rfl, rfl⟩
  go_wp2_with fail
  go_ret
  exact ⟨rfl, B0⟩
end Go.Proofs.YtffnmejabphabaaDoor
