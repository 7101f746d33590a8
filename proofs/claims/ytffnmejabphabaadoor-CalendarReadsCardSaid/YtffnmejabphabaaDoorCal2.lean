import Derived.Test.YtffnmejabphabaaDoorCal1
import Derived.Deep.QuietTactic
import Derived.BigQuiet
/- The reference of package calendar over whole numbers: first days, periods, dates. -/
namespace Go.Proofs.YtffnmejabphabaaDoor
open Go.RowKit

set_option maxHeartbeats 2000000 in
theorem rFirstDay_in (p : Int) (n : Nat) (hp : p = (n : Int)) (hn : n < 6000) (w : World) :
    Calls Tryd.prog 29 #[.int .i64 p] w fun e w' => e = .returned (.int .i64 (fst n)) ∧ w = w' := by
  have h0 : 0 ≤ p := by omega
  have h1 : p ≤ 5999 := by omega
  have HP := Lib.hid hp
  clear hp
  go_enter Tryd.func29, Tryd.ntmps29
  go_wp2_with fail
  go_loop [3, 4] (fun s3 s4 => ∃ i : Nat, i ≤ n ∧ s3 = .int .i64 (fst i) ∧ s4 = .int .i64 (i : Int)) (fun _ s4 => n - (intOf s4).toNat)
  case atStart => exact ⟨0, by omega, rfl, rfl⟩
  case round =>
    obtain ⟨i, hi, rfl, rfl⟩ := hrel
    have hb := fst_bd i
    by_cases hlt : i < n
    · have hlp : (i : Int) < p := by have := HP.out; omega
      have hm := mlI_bd (1900 + (i : Int) / 12) ((i : Int) % 12 + 1)
      go_wp2_with fail
      refine (rLength_v _ _ (by omega) (by omega) (by omega) (by omega) _).mono ?_; rintro e w' ⟨rfl, rfl⟩
      go_wp2_with fail
      go_round
      case rel => exact ⟨i + 1, by omega, rfl, by go_num⟩
      case measure => simp [intOf]; omega
    · have hlp : ¬ (i : Int) < p := by have := HP.out; omega
      obtain rfl : i = n := by omega
      go_wp2_with fail
      go_ret
      exact ⟨rfl, rfl⟩
theorem rFirstDay_out (p : Int) (h : p < 0 ∨ 5999 < p) (w : World) :
    Calls Tryd.prog 29 #[.int .i64 p] w fun e w' => e = .returned (.int .i64 (-1)) ∧ w = w' := by
  rcases h with h | h
  all_goals
    go_enter Tryd.func29, Tryd.ntmps29
    go_wp2
    go_ret
    exact ⟨rfl, rfl⟩
theorem rLastDay_in (p : Int) (n : Nat) (hp : p = (n : Int)) (hn : n < 6000) (w : World) :
    Calls Tryd.prog 31 #[.int .i64 p] w fun e w' => e = .returned (.int .i64 (fst (n + 1) - 1)) ∧ w = w' := by
  have h0 : 0 ≤ p := by omega
  have h1 : p ≤ 5999 := by omega
  have hb := fst_bd n
  have HE : Hid (fst n + mlI (1900 + p / 12) (p % 12 + 1) - 1 = fst (n + 1) - 1) := by unfold Hid; rw [fst_succ, hp]
  have hm := mlI_bd (1900 + p / 12) (p % 12 + 1)
  have HP := Lib.hid hp
  clear hp
  go_enter Tryd.func31, Tryd.ntmps31
  go_wp2_with fail
  refine (rFirstDay_in _ n HP.out hn _).mono ?_; rintro e w' ⟨rfl, rfl⟩
  go_wp2_with fail
  refine (rLength_v _ _ (by omega) (by omega) (by omega) (by omega) _).mono ?_; rintro e w' ⟨rfl, rfl⟩
  go_wp2_with fail
  go_ret
  exact ⟨ret_i64c HE.out, rfl⟩
theorem rLastDay_out (p : Int) (h : p < 0 ∨ 5999 < p) (w : World) :
    Calls Tryd.prog 31 #[.int .i64 p] w fun e w' => e = .returned (.int .i64 (-1)) ∧ w = w' := by
  rcases h with h | h
  all_goals
    go_enter Tryd.func31, Tryd.ntmps31
    go_wp2
    go_ret
    exact ⟨rfl, rfl⟩

set_option maxHeartbeats 2000000 in
theorem rPeriodOf_in (d : Int) (n : Nat) (h : Per n d) (hn : n < 6000) (w : World) :
    Calls Tryd.prog 25 #[.int .i64 d] w fun e w' => e = .returned (.int .i64 (n : Int)) ∧ w = w' := by
  have hb0 := fst_bd n
  have h0 : 0 ≤ d := by have := h.1; omega
  have h1 : d < 182621 := by have := h.2; have := fst_mono (show n + 1 ≤ 6000 by omega); rw [fst_end] at this; omega
  have H := Lib.hid h
  clear h hb0
  go_enter Tryd.func25, Tryd.ntmps25
  go_wp2_with fail
  go_loop [3, 4] (fun s3 s4 => ∃ i : Nat, i ≤ n ∧ s3 = .int .i64 (i : Int) ∧ s4 = .int .i64 (fst i)) (fun s3 _ => n - (intOf s3).toNat)
  case atStart => exact ⟨0, by omega, rfl, rfl⟩
  case round =>
    obtain ⟨i, hi, rfl, rfl⟩ := hrel
    have hb := fst_bd i
    have hm := mlI_bd (1900 + (i : Int) / 12) ((i : Int) % 12 + 1)
    by_cases hlt : i < n
    · have hlp : fst i + mlI (1900 + (i : Int) / 12) ((i : Int) % 12 + 1) ≤ d := by have := (H.out.le_iff (i + 1)).2 (by omega); rw [fst_succ] at this; exact this
      go_wp2_with fail
      refine (rLength_v _ _ (by omega) (by omega) (by omega) (by omega) _).mono ?_; rintro e w' ⟨rfl, rfl⟩
      go_wp2_with fail
      refine (rLength_v _ _ (by omega) (by omega) (by omega) (by omega) _).mono ?_; rintro e w' ⟨rfl, rfl⟩
      go_wp2_with fail
      go_round
      case rel => exact ⟨i + 1, by omega, by go_num, rfl⟩
      case measure => simp [intOf]; omega
    · obtain rfl : i = n := by omega
      have hlp : ¬ (fst i + mlI (1900 + (i : Int) / 12) ((i : Int) % 12 + 1) ≤ d) := by have := H.out.2; rw [fst_succ] at this; omega
      go_wp2_with fail
      refine (rLength_v _ _ (by omega) (by omega) (by omega) (by omega) _).mono ?_; rintro e w' ⟨rfl, rfl⟩
      go_wp2_with fail
      go_ret
      exact ⟨rfl, rfl⟩
theorem rPeriodOf_out (d : Int) (h : d < 0 ∨ 182620 < d) (w : World) :
    Calls Tryd.prog 25 #[.int .i64 d] w fun e w' => e = .returned (.int .i64 (-1)) ∧ w = w' := by
  rcases h with h | h
  all_goals
    go_enter Tryd.func25, Tryd.ntmps25
    go_wp2
    go_ret
    exact ⟨rfl, rfl⟩

theorem below_new (w : World) (o : Obj) : Below w.heap.size w (w.alloc o) := (Below.refl _ _).alloc (Nat.le_refl _) o
set_option maxHeartbeats 2000000 in
theorem rDateOf_in (d : Int) (k r : Nat) (h : Per (12 * k + r) d) (hk : k < 500) (hr : r < 12) (w : World) :
    Calls Tryd.prog 21 #[.int .i64 d] w fun e w' => e = .returned (.tuple #[.agg #[.int .i64 (1900 + (k : Int)), .int .i64 ((r : Int) + 1), .int .i64 (d - fst (12 * k + r) + 1)], .bool true]) ∧ Below w.heap.size w w' := by
  obtain ⟨n, hn⟩ : ∃ n, n = 12 * k + r := ⟨_, rfl⟩
  rw [← hn] at h ⊢
  have hb := fst_bd n
  have h0 : fst n ≤ d := h.1
  have h1 : d ≤ 200000 := by have := h.2; have := fst_bd (n + 1); omega
  have hn0 : ¬ (n : Int) < 0 := by omega
  have HK : Hid (1900 + (n : Int) / 12 = 1900 + (k : Int)) := by unfold Hid; omega
  have HR : Hid ((n : Int) % 12 + 1 = (r : Int) + 1) := by unfold Hid; omega
  have hn6 : n < 6000 := by omega
  have H := Lib.hid h
  clear h hn
  go_enter Tryd.func21, Tryd.ntmps21
  go_wp2_with fail
  refine (rPeriodOf_in d n H.out hn6 _).mono ?_; rintro e w' ⟨rfl, rfl⟩
  go_wp2_with fail
  refine (rFirstDay_in _ n rfl hn6 _).mono ?_; rintro e w' ⟨rfl, rfl⟩
  go_wp2_with fail
  refine bodyPost_ret (v := .tuple #[.agg #[.int .i64 (1900 + (n : Int) / 12), .int .i64 ((n : Int) % 12 + 1), .int .i64 (d - fst n + 1)], .bool true]) (by simp [results, Tryd.results21, go_sem]) rfl ?_
  rw [HK.out, HR.out]
  exact ⟨rfl, by first | exact below_new _ _ | exact (below_new _ _).setCell (Nat.le_refl _) _⟩
theorem rDateOf_out (d : Int) (h : d < 0 ∨ 182620 < d) (w : World) :
    Calls Tryd.prog 21 #[.int .i64 d] w fun e w' => e = .returned (.tuple #[.agg #[.int .i64 0, .int .i64 0, .int .i64 0], .bool false]) ∧ Below w.heap.size w w' := by
  go_enter Tryd.func21, Tryd.ntmps21
  go_wp2_with fail
  refine (rPeriodOf_out d h _).mono ?_; rintro e w' ⟨rfl, rfl⟩
  go_wp2_with fail
  refine bodyPost_ret (v := .tuple #[.agg #[.int .i64 0, .int .i64 0, .int .i64 0], .bool false]) (by simp [results, Tryd.results21, go_sem]) rfl ?_
  exact ⟨rfl, by first | exact below_new _ _ | exact (below_new _ _).setCell (Nat.le_refl _) _⟩
end Go.Proofs.YtffnmejabphabaaDoor
