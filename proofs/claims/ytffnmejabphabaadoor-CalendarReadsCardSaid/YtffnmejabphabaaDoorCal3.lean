import Derived.Test.YtffnmejabphabaaDoorCal2
/- The reference's ValidDate and Number. -/
namespace Go.Proofs.YtffnmejabphabaaDoor
open Go.RowKit

theorem bcellc {W w1 : World} (hb : Below W.heap.size W w1) : (∀ b o, b < W.heap.size → w1.cell? ⟨b, o, none⟩ = W.cell? ⟨b, o, none⟩) ∧ (∀ b o, b < W.heap.size → w1.frozen? ⟨b, o, none⟩ = W.frozen? ⟨b, o, none⟩) :=
  ⟨fun b o h => hb.cell (p := ⟨b, o, none⟩) h, fun b o h => hb.frozen (p := ⟨b, o, none⟩) h⟩
set_option maxHeartbeats 4000000 in
theorem rValidDate_in (k r : Nat) (d : Int) (hk : k < 500) (hr : r < 12) (h1 : 1 ≤ d) (h2 : d ≤ mlI (1900 + (k : Int)) ((r : Int) + 1)) (w : World) :
    Calls Tryd.prog 15 #[.agg #[.int .i64 (1900 + (k : Int)), .int .i64 ((r : Int) + 1), .int .i64 d]] w fun e w' => e = .returned (.bool true) ∧ Below w.heap.size w w' := by
  have hm := mlI_bd (1900 + (k : Int)) ((r : Int) + 1)
  obtain ⟨y, hy⟩ : ∃ y : Int, y = 1900 + (k : Int) := ⟨_, rfl⟩
  obtain ⟨m, hmm⟩ : ∃ m : Int, m = (r : Int) + 1 := ⟨_, rfl⟩
  rw [← hy, ← hmm] at h2 hm ⊢
  have a1 : decide (1900 ≤ y) = true := by simp; omega
  have a2 : decide (y ≤ 2399) = true := by simp; omega
  have a3 : decide (1 ≤ m) = true := by simp; omega
  have a4 : decide (m ≤ 12) = true := by simp; omega
  have a5 : decide (1 ≤ d) = true := by simp; omega
  have a6 : decide (d ≤ mlI y m) = true := by simp; omega
  have b1 : 1900 ≤ y := by omega
  have b2 : y ≤ 2399 := by omega
  have b3 : 1 ≤ m := by omega
  have b4 : m ≤ 12 := by omega
  clear hy hmm
  have HL := Lib.hid (rLength_v y m b1 b2 b3 b4)
  have B0 := below_new w (.cells #[.int .i64 y, .int .i64 m, .int .i64 d] 23)
  go_enter Tryd.func15, Tryd.ntmps15
  go_wp2_with fail
  go_quiet ((go_at_call 48; exact Calls.quiet_of_same ((HL.out _).mono fun e w' h => ⟨h.1, h.2.symm⟩)))
  go_wp2_with fail
  go_ret
  exact ⟨rfl, below_drewN B0 _⟩

set_option maxHeartbeats 4000000 in
theorem rValidDate_o1 (y m d : Int) (h : y < 1900) (w : World) :
    Calls Tryd.prog 15 #[.agg #[.int .i64 y, .int .i64 m, .int .i64 d]] w fun e w' => e = .returned (.bool false) ∧ Below w.heap.size w w' := by
  have a1 : decide (1900 ≤ y) = false := by simp; omega
  clear h
  have B0 := below_new w (.cells #[.int .i64 y, .int .i64 m, .int .i64 d] 23)
  go_enter Tryd.func15, Tryd.ntmps15
  go_wp2_with fail
  go_quiet ((fail))
  go_wp2_with fail
  go_ret
  exact ⟨rfl, below_drewN B0 _⟩
set_option maxHeartbeats 4000000 in
theorem rValidDate_o2 (y m d : Int) (h0 : 1900 ≤ y) (h : 2399 < y) (w : World) :
    Calls Tryd.prog 15 #[.agg #[.int .i64 y, .int .i64 m, .int .i64 d]] w fun e w' => e = .returned (.bool false) ∧ Below w.heap.size w w' := by
  have a1 : decide (1900 ≤ y) = true := by simp; omega
  have a2 : decide (y ≤ 2399) = false := by simp; omega
  clear h h0
  have B0 := below_new w (.cells #[.int .i64 y, .int .i64 m, .int .i64 d] 23)
  go_enter Tryd.func15, Tryd.ntmps15
  go_wp2_with fail
  go_quiet ((fail))
  go_wp2_with fail
  go_ret
  exact ⟨rfl, below_drewN B0 _⟩
set_option maxHeartbeats 4000000 in
theorem rValidDate_o3 (y m d : Int) (h0 : 1900 ≤ y) (h1 : y ≤ 2399) (h : m < 1) (w : World) :
    Calls Tryd.prog 15 #[.agg #[.int .i64 y, .int .i64 m, .int .i64 d]] w fun e w' => e = .returned (.bool false) ∧ Below w.heap.size w w' := by
  have a1 : decide (1900 ≤ y) = true := by simp; omega
  have a2 : decide (y ≤ 2399) = true := by simp; omega
  have a3 : decide (1 ≤ m) = false := by simp; omega
  clear h h0 h1
  have B0 := below_new w (.cells #[.int .i64 y, .int .i64 m, .int .i64 d] 23)
  go_enter Tryd.func15, Tryd.ntmps15
  go_wp2_with fail
  go_quiet ((fail))
  go_wp2_with fail
  go_ret
  exact ⟨rfl, below_drewN B0 _⟩
set_option maxHeartbeats 4000000 in
theorem rValidDate_o4 (y m d : Int) (h0 : 1900 ≤ y) (h1 : y ≤ 2399) (h2 : 1 ≤ m) (h : 12 < m) (w : World) :
    Calls Tryd.prog 15 #[.agg #[.int .i64 y, .int .i64 m, .int .i64 d]] w fun e w' => e = .returned (.bool false) ∧ Below w.heap.size w w' := by
  have a1 : decide (1900 ≤ y) = true := by simp; omega
  have a2 : decide (y ≤ 2399) = true := by simp; omega
  have a3 : decide (1 ≤ m) = true := by simp; omega
  have a4 : decide (m ≤ 12) = false := by simp; omega
  clear h h0 h1 h2
  have B0 := below_new w (.cells #[.int .i64 y, .int .i64 m, .int .i64 d] 23)
  go_enter Tryd.func15, Tryd.ntmps15
  go_wp2_with fail
  go_quiet ((fail))
  go_wp2_with fail
  go_ret
  exact ⟨rfl, below_drewN B0 _⟩
set_option maxHeartbeats 4000000 in
theorem rValidDate_o5 (y m d : Int) (h0 : 1900 ≤ y) (h1 : y ≤ 2399) (h2 : 1 ≤ m) (h3 : m ≤ 12) (h : d < 1) (w : World) :
    Calls Tryd.prog 15 #[.agg #[.int .i64 y, .int .i64 m, .int .i64 d]] w fun e w' => e = .returned (.bool false) ∧ Below w.heap.size w w' := by
  have a1 : decide (1900 ≤ y) = true := by simp; omega
  have a2 : decide (y ≤ 2399) = true := by simp; omega
  have a3 : decide (1 ≤ m) = true := by simp; omega
  have a4 : decide (m ≤ 12) = true := by simp; omega
  have a5 : decide (1 ≤ d) = false := by simp; omega
  clear h h0 h1 h2 h3
  have B0 := below_new w (.cells #[.int .i64 y, .int .i64 m, .int .i64 d] 23)
  go_enter Tryd.func15, Tryd.ntmps15
  go_wp2_with fail
  go_quiet ((fail))
  go_wp2_with fail
  go_ret
  exact ⟨rfl, below_drewN B0 _⟩
set_option maxHeartbeats 4000000 in
theorem rValidDate_o6 (y m d : Int) (b1 : 1900 ≤ y) (b2 : y ≤ 2399) (b3 : 1 ≤ m) (b4 : m ≤ 12) (h4 : 1 ≤ d) (h : mlI y m < d) (w : World) :
    Calls Tryd.prog 15 #[.agg #[.int .i64 y, .int .i64 m, .int .i64 d]] w fun e w' => e = .returned (.bool false) ∧ Below w.heap.size w w' := by
  have a1 : decide (1900 ≤ y) = true := by simp; omega
  have a2 : decide (y ≤ 2399) = true := by simp; omega
  have a3 : decide (1 ≤ m) = true := by simp; omega
  have a4 : decide (m ≤ 12) = true := by simp; omega
  have a5 : decide (1 ≤ d) = true := by simp; omega
  have a6 : decide (d ≤ mlI y m) = false := by simp; omega
  clear h h4
  have HL := Lib.hid (rLength_v y m b1 b2 b3 b4)
  have B0 := below_new w (.cells #[.int .i64 y, .int .i64 m, .int .i64 d] 23)
  go_enter Tryd.func15, Tryd.ntmps15
  go_wp2_with fail
  go_quiet ((go_at_call 48; exact Calls.quiet_of_same ((HL.out _).mono fun e w' h => ⟨h.1, h.2.symm⟩)))
  go_wp2_with fail
  go_ret
  exact ⟨rfl, below_drewN B0 _⟩

theorem rValidDate_out (y m d : Int) (h : vdI y m d = false) (w : World) :
    Calls Tryd.prog 15 #[.agg #[.int .i64 y, .int .i64 m, .int .i64 d]] w fun e w' => e = .returned (.bool false) ∧ Below w.heap.size w w' := by
  by_cases h0 : y < 1900
  · exact rValidDate_o1 y m d h0 w
  rcases vd_false h with h | h | ⟨h0, h1, h | h | ⟨h2, h3, h | ⟨h4, h⟩⟩⟩
  · exact absurd h h0
  · exact rValidDate_o2 y m d (by omega) h w
  · exact rValidDate_o3 y m d h0 h1 h w
  · by_cases h2 : m < 1
    · exact rValidDate_o3 y m d h0 h1 h2 w
    · exact rValidDate_o4 y m d h0 h1 (by omega) h w
  · exact rValidDate_o5 y m d h0 h1 h2 h3 h w
  · exact rValidDate_o6 y m d h0 h1 h2 h3 h4 h w

set_option maxHeartbeats 4000000 in
theorem rNumber_in (k r : Nat) (d : Int) (hk : k < 500) (hr : r < 12) (h1 : 1 ≤ d) (h2 : d ≤ mlI (1900 + (k : Int)) ((r : Int) + 1)) (w : World) :
    Calls Tryd.prog 17 #[.agg #[.int .i64 (1900 + (k : Int)), .int .i64 ((r : Int) + 1), .int .i64 d]] w fun e w' => e = .returned (.int .i64 (fst (12 * k + r) + d - 1)) ∧ Below w.heap.size w w' := by
  have hm := mlI_bd (1900 + (k : Int)) ((r : Int) + 1)
  have hv := rValidDate_in k r d hk hr h1 h2
  obtain ⟨n, hn⟩ : ∃ n, n = 12 * k + r := ⟨_, rfl⟩
  have hn6 : n < 6000 := by omega
  have hb := fst_bd n
  rw [← hn]
  obtain ⟨y, hy⟩ : ∃ y : Int, y = 1900 + (k : Int) := ⟨_, rfl⟩
  obtain ⟨m, hmm⟩ : ∃ m : Int, m = (r : Int) + 1 := ⟨_, rfl⟩
  rw [← hy, ← hmm] at hv ⊢
  have e1 : IntKind.i64.wrap (y - 1900) = y - 1900 := IntWalk.i64_in _ (by omega)
  have e2 : IntKind.i64.wrap (12 * (y - 1900)) = 12 * (y - 1900) := IntWalk.i64_in _ (by omega)
  have e3 : IntKind.i64.wrap (12 * (y - 1900) + m) = 12 * (y - 1900) + m := IntWalk.i64_in _ (by omega)
  have e4 : IntKind.i64.wrap (12 * (y - 1900) + m - 1) = 12 * (y - 1900) + m - 1 := IntWalk.i64_in _ (by omega)
  have e5 : IntKind.i64.wrap (fst n + d) = fst n + d := IntWalk.i64_in _ (by omega)
  have e6 : IntKind.i64.wrap (fst n + d - 1) = fst n + d - 1 := IntWalk.i64_in _ (by omega)
  have HF := Lib.hid (rFirstDay_in (12 * (y - 1900) + m - 1) n (by omega) hn6)
  have HV := Lib.hid hv
  have B0 := below_new w (.cells #[.int .i64 y, .int .i64 m, .int .i64 d] 23)
  clear hv hy hmm hn hm h1 h2 hb
  go_enter Tryd.func17, Tryd.ntmps17
  go_wp2_with fail
  refine (HV.out _).mono ?_; rintro e w1 ⟨rfl, b1⟩
  obtain ⟨hc, hf⟩ := bcellc b1
  have B1 := B0.trans (b1.mono B0.size)
  go_wp2_with fail
  go_quiet ((go_at_call 29; exact Calls.quiet_of_same ((HF.out _).mono fun e w' h => ⟨h.1, h.2.symm⟩)))
  go_wp2_with fail
  go_ret
  exact ⟨rfl, below_drewN B1 _⟩
theorem rNumber_out (y m d : Int) (h : vdI y m d = false) (w : World) :
    Calls Tryd.prog 17 #[.agg #[.int .i64 y, .int .i64 m, .int .i64 d]] w fun e w' => e = .returned (.int .i64 (-1)) ∧ Below w.heap.size w w' := by
  have HV := Lib.hid (rValidDate_out y m d h)
  have B0 := below_new w (.cells #[.int .i64 y, .int .i64 m, .int .i64 d] 23)
  clear h
  go_enter Tryd.func17, Tryd.ntmps17
  go_wp2_with fail
  refine (HV.out _).mono ?_; rintro e w1 ⟨rfl, b1⟩
  have B1 := B0.trans (b1.mono B0.size)
  go_wp2_with fail
  go_ret
  exact ⟨rfl, B1⟩
end Go.Proofs.YtffnmejabphabaaDoor
