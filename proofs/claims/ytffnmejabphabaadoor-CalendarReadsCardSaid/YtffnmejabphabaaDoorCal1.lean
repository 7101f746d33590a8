import Derived.Test.YtffnmejabphabaaDoorCalM
import Derived.WalkSpells
import Derived.WalkLawsBesides
import Derived.Laws.BitsAllLaws
/- Package calendar and its reference over whole numbers: the small functions. -/
namespace Go.Proofs.YtffnmejabphabaaDoor
open Go.RowKit

theorem ret_i64c {a b : Int} (h : a = b) : Ending.returned (.int .i64 a) = .returned (.int .i64 b) := by rw [h]

theorem validDay_in (d : Int) (h0 : 0 ≤ d) (h1 : d ≤ 182620) (w : World) :
    Calls Tryd.prog 50 #[.int .i64 d] w fun e w' => e = .returned (.bool true) ∧ w = w' := by
  go_enter Tryd.func50, Tryd.ntmps50
  go_wp2
  go_ret
  exact ⟨rfl, rfl⟩
theorem ret_boolc {a b : Bool} (h : a = b) : Ending.returned (.bool a) = .returned (.bool b) := by rw [h]
theorem validDay_out (d : Int) (h : d < 0 ∨ 182620 < d) (w : World) :
    Calls Tryd.prog 50 #[.int .i64 d] w fun e w' => e = .returned (.bool false) ∧ w = w' := by
  rcases h with h | h
  all_goals
    go_enter Tryd.func50, Tryd.ntmps50
    go_wp2
    go_ret
    exact ⟨by first | rfl | exact ret_boolc (by simp; omega), rfl⟩
theorem validPeriod_in (d : Int) (h0 : 0 ≤ d) (h1 : d ≤ 5999) (w : World) :
    Calls Tryd.prog 54 #[.int .i64 d] w fun e w' => e = .returned (.bool true) ∧ w = w' := by
  go_enter Tryd.func54, Tryd.ntmps54
  go_wp2
  go_ret
  exact ⟨rfl, rfl⟩
theorem validPeriod_out (d : Int) (h : d < 0 ∨ 5999 < d) (w : World) :
    Calls Tryd.prog 54 #[.int .i64 d] w fun e w' => e = .returned (.bool false) ∧ w = w' := by
  rcases h with h | h
  all_goals
    go_enter Tryd.func54, Tryd.ntmps54
    go_wp2
    go_ret
    exact ⟨by first | rfl | exact ret_boolc (by simp; omega), rfl⟩

theorem yearOf_v (p : Int) (k r : Nat) (hp : p = 12 * (k : Int) + (r : Int)) (hr : r < 12) (hk : k < 500) (w : World) :
    Calls Tryd.prog 51 #[.int .i64 p] w fun e w' => e = .returned (.int .i64 (1900 + (k : Int))) ∧ w = w' := by
  have h0 : 0 ≤ p := by omega
  have h1 : p ≤ 5999 := by omega
  have HD : Hid (p / 12 = (k : Int)) := by unfold Hid; omega
  clear hp
  go_enter Tryd.func51, Tryd.ntmps51
  go_wp2
  go_ret
  exact ⟨ret_i64c (by rw [HD.out]), rfl⟩

theorem periodNumber_v (k r : Nat) (hr : r < 12) (hk : k < 500) (w : World) :
    Calls Tryd.prog 49 #[.int .i64 (1900 + (k : Int)), .int .i64 ((r : Int) + 1)] w fun e w' => e = .returned (.int .i64 (12 * (k : Int) + (r : Int))) ∧ w = w' := by
  go_enter Tryd.func49, Tryd.ntmps49
  go_wp2
  go_ret
  exact ⟨ret_i64c (by omega), rfl⟩

theorem leap_v (y : Int) (h0 : 1900 ≤ y) (h1 : y ≤ 2399) (w : World) :
    Calls Tryd.prog 64 #[.int .i64 y] w fun e w' => e = .returned (.bool (lpI y)) ∧ w = w' := by
  have key : ∀ a b c : Bool, (y % 4 == 0) = a → (y % 100 != 0) = b → (y % 400 == 0) = c → Calls Tryd.prog 64 #[.int .i64 y] w fun e w' => e = .returned (.bool ((a && b) || c)) ∧ w = w' := by
    intro a b c ha hb hc
    cases a <;> cases b <;> cases c
    all_goals
      go_enter Tryd.func64, Tryd.ntmps64
      go_wp2
      go_ret
      exact ⟨rfl, rfl⟩
  exact key _ _ _ rfl rfl rfl

theorem leapYears_v (y : Int) (h0 : 1800 ≤ y) (h1 : y ≤ 2400) (w : World) :
    Calls Tryd.prog 65 #[.int .i64 y] w fun e w' => e = .returned (.int .i64 (lvI y)) ∧ w = w' := by
  go_enter Tryd.func65, Tryd.ntmps65
  go_wp2
  go_ret
  exact ⟨rfl, rfl⟩

theorem lv_bd (y : Int) (h0 : 1800 ≤ y) (h1 : y ≤ 2400) : 0 ≤ lvI y ∧ lvI y ≤ 1000 := by unfold lvI; omega
theorem yearStart_v (k : Nat) (hk : k < 500) (w : World) :
    Calls Tryd.prog 55 #[.int .i64 (1900 + (k : Int))] w fun e w' => e = .returned (.int .i64 (fst (12 * k))) ∧ w = w' := by
  rw [fst_year]
  have b1 := lv_bd (1900 + (k : Int) - 1) (by omega) (by omega)
  have b2 := lv_bd 1899 (by omega) (by omega)
  go_enter Tryd.func55, Tryd.ntmps55
  go_wp2_with fail
  refine (leapYears_v _ (by omega) (by omega) _).mono ?_; rintro e w' ⟨rfl, rfl⟩
  go_wp2_with fail
  refine (leapYears_v _ (by omega) (by omega) _).mono ?_; rintro e w' ⟨rfl, rfl⟩
  go_wp2_with fail
  go_ret
  exact ⟨rfl, rfl⟩

theorem Month_in (p : Int) (k r : Nat) (hp : p = 12 * (k : Int) + (r : Int)) (hr : r < 12) (hk : k < 500) (w : World) :
    Calls Tryd.prog 26 #[.int .i64 p] w fun e w' => e = .returned (.int .i64 ((r : Int) + 1)) ∧ w = w' := by
  have h0 : 0 ≤ p := by omega
  have h1 : p ≤ 5999 := by omega
  have HD : Hid (p % 12 = (r : Int)) := by unfold Hid; omega
  clear hp
  go_enter Tryd.func26, Tryd.ntmps26
  go_wp2_with fail
  refine (validPeriod_in _ h0 h1 _).mono ?_; rintro e w' ⟨rfl, rfl⟩
  go_wp2_with fail
  go_ret
  exact ⟨ret_i64c (by rw [HD.out]), rfl⟩
theorem Month_out (p : Int) (h : p < 0 ∨ 5999 < p) (w : World) :
    Calls Tryd.prog 26 #[.int .i64 p] w fun e w' => e = .returned (.int .i64 0) ∧ w = w' := by
  go_enter Tryd.func26, Tryd.ntmps26
  go_wp2_with fail
  refine (validPeriod_out _ h _).mono ?_; rintro e w' ⟨rfl, rfl⟩
  go_wp2_with fail
  go_ret
  exact ⟨rfl, rfl⟩

theorem Weekday_in (d : Int) (h0 : 0 ≤ d) (h1 : d ≤ 182620) (w : World) :
    Calls Tryd.prog 22 #[.int .i64 d] w fun e w' => e = .returned (.int .i64 (d % 7)) ∧ w = w' := by
  go_enter Tryd.func22, Tryd.ntmps22
  go_wp2_with fail
  refine (validDay_in _ h0 h1 _).mono ?_; rintro e w' ⟨rfl, rfl⟩
  go_wp2_with fail
  go_ret
  exact ⟨rfl, rfl⟩
theorem Weekday_out (d : Int) (h : d < 0 ∨ 182620 < d) (w : World) :
    Calls Tryd.prog 22 #[.int .i64 d] w fun e w' => e = .returned (.int .i64 (-1)) ∧ w = w' := by
  go_enter Tryd.func22, Tryd.ntmps22
  go_wp2_with fail
  refine (validDay_out _ h _).mono ?_; rintro e w' ⟨rfl, rfl⟩
  go_wp2_with fail
  go_ret
  exact ⟨rfl, rfl⟩

/-- the December before a period -/
def decI (k : Nat) : Int := 12 * (k : Int) - 1
theorem December_in (p : Int) (k r : Nat) (hp : p = 12 * (k : Int) + (r : Int)) (hr : r < 12) (hk : k < 500) (w : World) :
    Calls Tryd.prog 32 #[.int .i64 p] w fun e w' => e = .returned (.int .i64 (decI k)) ∧ w = w' := by
  have h0 : 0 ≤ p := by omega
  have h1 : p ≤ 5999 := by omega
  have HD : Hid (p - ((r : Int) + 1) = 12 * (k : Int) - 1) := by unfold Hid; omega
  have HP := Lib.hid hp
  clear hp
  go_enter Tryd.func32, Tryd.ntmps32
  go_wp2_with fail
  refine (validPeriod_in _ h0 h1 _).mono ?_; rintro e w' ⟨rfl, rfl⟩
  go_wp2_with fail
  refine (Month_in _ k r HP.out hr hk _).mono ?_; rintro e w' ⟨rfl, rfl⟩
  go_wp2_with fail
  go_ret
  exact ⟨ret_i64c HD.out, rfl⟩
theorem December_out (p : Int) (h : p < 0 ∨ 5999 < p) (w : World) :
    Calls Tryd.prog 32 #[.int .i64 p] w fun e w' => e = .returned (.int .i64 (-1)) ∧ w = w' := by
  go_enter Tryd.func32, Tryd.ntmps32
  go_wp2_with fail
  refine (validPeriod_out _ h _).mono ?_; rintro e w' ⟨rfl, rfl⟩
  go_wp2_with fail
  go_ret
  exact ⟨rfl, rfl⟩

theorem rMonth_in (p : Int) (k r : Nat) (hp : p = 12 * (k : Int) + (r : Int)) (hr : r < 12) (hk : k < 500) (w : World) :
    Calls Tryd.prog 27 #[.int .i64 p] w fun e w' => e = .returned (.int .i64 ((r : Int) + 1)) ∧ w = w' := by
  have h0 : 0 ≤ p := by omega
  have h1 : p ≤ 5999 := by omega
  have HD : Hid (p % 12 = (r : Int)) := by unfold Hid; omega
  clear hp
  go_enter Tryd.func27, Tryd.ntmps27
  go_wp2
  go_ret
  exact ⟨ret_i64c (by rw [HD.out]), rfl⟩
theorem rMonth_out (p : Int) (h : p < 0 ∨ 5999 < p) (w : World) :
    Calls Tryd.prog 27 #[.int .i64 p] w fun e w' => e = .returned (.int .i64 0) ∧ w = w' := by
  rcases h with h | h
  all_goals
    go_enter Tryd.func27, Tryd.ntmps27
    go_wp2
    go_ret
    exact ⟨rfl, rfl⟩
theorem rWeekday_in (d : Int) (h0 : 0 ≤ d) (h1 : d ≤ 182620) (w : World) :
    Calls Tryd.prog 23 #[.int .i64 d] w fun e w' => e = .returned (.int .i64 (d % 7)) ∧ w = w' := by
  go_enter Tryd.func23, Tryd.ntmps23
  go_wp2
  go_ret
  exact ⟨rfl, rfl⟩
theorem rWeekday_out (d : Int) (h : d < 0 ∨ 182620 < d) (w : World) :
    Calls Tryd.prog 23 #[.int .i64 d] w fun e w' => e = .returned (.int .i64 (-1)) ∧ w = w' := by
  rcases h with h | h
  all_goals
    go_enter Tryd.func23, Tryd.ntmps23
    go_wp2
    go_ret
    exact ⟨rfl, rfl⟩
theorem rDecember_in (p : Int) (k r : Nat) (hp : p = 12 * (k : Int) + (r : Int)) (hr : r < 12) (hk : k < 500) (w : World) :
    Calls Tryd.prog 33 #[.int .i64 p] w fun e w' => e = .returned (.int .i64 (decI k)) ∧ w = w' := by
  have h0 : 0 ≤ p := by omega
  have h1 : p ≤ 5999 := by omega
  by_cases hz : p < 12
  · have HK : Hid (-1 = decI k) := by unfold Hid decI; omega
    clear hp
    go_enter Tryd.func33, Tryd.ntmps33
    go_wp2
    go_ret
    exact ⟨ret_i64c HK.out, rfl⟩
  · have HK : Hid (p / 12 * 12 - 1 = decI k) := by unfold Hid decI; omega
    clear hp
    go_enter Tryd.func33, Tryd.ntmps33
    go_wp2
    go_ret
    exact ⟨ret_i64c HK.out, rfl⟩
theorem rDecember_out (p : Int) (h : p < 0 ∨ 5999 < p) (w : World) :
    Calls Tryd.prog 33 #[.int .i64 p] w fun e w' => e = .returned (.int .i64 (-1)) ∧ w = w' := by
  rcases h with h | h
  all_goals
    go_enter Tryd.func33, Tryd.ntmps33
    go_wp2
    go_ret
    exact ⟨rfl, rfl⟩

theorem rLength_v (y m : Int) (h0 : 1900 ≤ y) (h1 : y ≤ 2399) (h2 : 1 ≤ m) (h3 : m ≤ 12) (w : World) :
    Calls Tryd.prog 48 #[.int .i64 y, .int .i64 m] w fun e w' => e = .returned (.int .i64 (mlI y m)) ∧ w = w' := by
  have key : ∀ a b c : Bool, (y % 4 == 0) = a → (y % 100 != 0) = b → (y % 400 == 0) = c → Calls Tryd.prog 48 #[.int .i64 y, .int .i64 2] w fun e w' => e = .returned (.int .i64 (if ((a && b) || c) = true then 29 else 28)) ∧ w = w' := by
    intro a b c ha hb hc
    cases a <;> cases b <;> cases c
    all_goals
      go_enter Tryd.func48, Tryd.ntmps48
      go_wp2
      go_ret
      exact ⟨rfl, rfl⟩
  have k2 := key _ _ _ rfl rfl rfl
  clear key
  have h : m = 2 ∨ (m = 1 ∨ m = 3 ∨ m = 5 ∨ m = 7 ∨ m = 8 ∨ m = 10 ∨ m = 12) ∨ (m = 4 ∨ m = 6 ∨ m = 9 ∨ m = 11) := by omega
  rcases h with rfl | h | h
  · exact k2
  · clear k2
    rcases h with rfl | rfl | rfl | rfl | rfl | rfl | rfl
    all_goals
      go_enter Tryd.func48, Tryd.ntmps48
      go_wp2
      go_ret
      exact ⟨rfl, rfl⟩
  · clear k2
    rcases h with rfl | rfl | rfl | rfl
    all_goals
      go_enter Tryd.func48, Tryd.ntmps48
      go_wp2
      go_ret
      exact ⟨rfl, rfl⟩
end Go.Proofs.YtffnmejabphabaaDoor
