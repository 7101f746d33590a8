import Derived.Test.YtffnmejabphabaaDoorChecked
import Derived.WalkKit
import Derived.Lib.Hide
/- The Gregorian calendar from 1900 on in plain numbers: lengths of months, first days of periods, the period of a day. -/
namespace Go.Proofs.YtffnmejabphabaaDoor
open Go.RowKit

/-- a leap year -/
def lpI (y : Int) : Bool := ((y % 4 == 0) && (y % 100 != 0)) || (y % 400 == 0)
/-- the days of a month from 1 to 12 -/
def mlI (y m : Int) : Int := if m = 2 then (if lpI y = true then 29 else 28) else if m = 4 ∨ m = 6 ∨ m = 9 ∨ m = 11 then 30 else 31
/-- the days ahead of a period -/
def fst : Nat → Int
  | 0 => 0
  | p + 1 => fst p + mlI (1900 + (p : Int) / 12) ((p : Int) % 12 + 1)

theorem mlI_bd (y m : Int) : 28 ≤ mlI y m ∧ mlI y m ≤ 31 := by
  unfold mlI
  split
  · split <;> omega
  · split <;> omega
theorem fst_succ (p : Nat) : fst (p + 1) = fst p + mlI (1900 + (p : Int) / 12) ((p : Int) % 12 + 1) := rfl
theorem fst_step (k j : Nat) (hj : j < 12) : fst (12 * k + (j + 1)) = fst (12 * k + j) + mlI (1900 + (k : Int)) ((j : Int) + 1) := by
  have e1 : ((12 * k + j : Nat) : Int) / 12 = (k : Int) := by omega
  have e2 : ((12 * k + j : Nat) : Int) % 12 = (j : Int) := by omega
  rw [← Nat.add_assoc, fst_succ, e1, e2]
theorem fst_bd (p : Nat) : 0 ≤ fst p ∧ fst p ≤ 31 * (p : Int) := by
  induction p with
  | zero => exact ⟨by simp [fst], by simp [fst]⟩
  | succ p ih =>
    have := mlI_bd (1900 + (p : Int) / 12) ((p : Int) % 12 + 1)
    rw [fst_succ]
    omega
theorem fst_lt (p : Nat) : fst p + 28 ≤ fst (p + 1) ∧ fst (p + 1) ≤ fst p + 31 := by
  have := mlI_bd (1900 + (p : Int) / 12) ((p : Int) % 12 + 1)
  rw [fst_succ]
  omega
theorem fst_mono {p q : Nat} (h : p ≤ q) : fst p ≤ fst q := by
  induction q with
  | zero => obtain rfl : p = 0 := by omega
            exact Int.le_refl _
  | succ q ih =>
    by_cases e : p = q + 1
    · subst e; exact Int.le_refl _
    · have := ih (by omega)
      have := fst_lt q
      omega

/-- leap years up to a year -/
def lvI (y : Int) : Int := y / 4 - y / 100 + y / 400
/-- the first day of a year -/
def ysI (y : Int) : Int := 365 * (y - 1900) + lvI (y - 1) - lvI 1899
theorem lv_step (y : Int) : lvI (y + 1) = lvI y + (if lpI (y + 1) = true then 1 else 0) := by
  unfold lvI lpI
  by_cases h4 : (y + 1) % 4 = 0 <;> by_cases h100 : (y + 1) % 100 = 0 <;> by_cases h400 : (y + 1) % 400 = 0 <;> simp [h4, h100, h400] <;> omega
theorem year_len (y : Int) : mlI y 1 + mlI y 2 + mlI y 3 + mlI y 4 + mlI y 5 + mlI y 6 + mlI y 7 + mlI y 8 + mlI y 9 + mlI y 10 + mlI y 11 + mlI y 12 = 365 + (if lpI y = true then 1 else 0) := by
  cases h : lpI y <;> simp [mlI, h]
theorem fst_year (k : Nat) : fst (12 * k) = ysI (1900 + (k : Int)) := by
  induction k with
  | zero => simp [fst, ysI, lvI]
  | succ k ih =>
    have e : 12 * (k + 1) = 12 * k + 12 := by omega
    have h0 : fst (12 * k + 1) = fst (12 * k) + mlI (1900 + (k : Int)) 1 := fst_step k 0 (by omega)
    have h1 : fst (12 * k + 2) = fst (12 * k + 1) + mlI (1900 + (k : Int)) 2 := fst_step k 1 (by omega)
    have h2 : fst (12 * k + 3) = fst (12 * k + 2) + mlI (1900 + (k : Int)) 3 := fst_step k 2 (by omega)
    have h3 : fst (12 * k + 4) = fst (12 * k + 3) + mlI (1900 + (k : Int)) 4 := fst_step k 3 (by omega)
    have h4 : fst (12 * k + 5) = fst (12 * k + 4) + mlI (1900 + (k : Int)) 5 := fst_step k 4 (by omega)
    have h5 : fst (12 * k + 6) = fst (12 * k + 5) + mlI (1900 + (k : Int)) 6 := fst_step k 5 (by omega)
    have h6 : fst (12 * k + 7) = fst (12 * k + 6) + mlI (1900 + (k : Int)) 7 := fst_step k 6 (by omega)
    have h7 : fst (12 * k + 8) = fst (12 * k + 7) + mlI (1900 + (k : Int)) 8 := fst_step k 7 (by omega)
    have h8 : fst (12 * k + 9) = fst (12 * k + 8) + mlI (1900 + (k : Int)) 9 := fst_step k 8 (by omega)
    have h9 : fst (12 * k + 10) = fst (12 * k + 9) + mlI (1900 + (k : Int)) 10 := fst_step k 9 (by omega)
    have h10 : fst (12 * k + 11) = fst (12 * k + 10) + mlI (1900 + (k : Int)) 11 := fst_step k 10 (by omega)
    have h11 : fst (12 * k + 12) = fst (12 * k + 11) + mlI (1900 + (k : Int)) 12 := fst_step k 11 (by omega)
    have hy := year_len (1900 + (k : Int))
    have hl := lv_step (1900 + (k : Int) - 1)
    have e1 : (1900 + (k : Int) - 1 + 1) = 1900 + (k : Int) := by omega
    rw [e1] at hl
    have e2 : (1900 + ((k + 1 : Nat) : Int) - 1) = 1900 + (k : Int) := by omega
    have e3 : ysI (1900 + ((k + 1 : Nat) : Int)) = 365 * (1900 + ((k + 1 : Nat) : Int) - 1900) + lvI (1900 + (k : Int)) - lvI 1899 := by unfold ysI; rw [e2]
    have e4 : ysI (1900 + (k : Int)) = 365 * (1900 + (k : Int) - 1900) + lvI (1900 + (k : Int) - 1) - lvI 1899 := rfl
    rw [e]
    omega
theorem fst_end : fst 6000 = 182621 := by
  rw [show 6000 = 12 * 500 by rfl, fst_year]
  decide
theorem fst_1201 : fst 1201 = 36555 := by
  rw [show 1201 = 12 * 100 + (0 + 1) by rfl, fst_step _ _ (by omega), Nat.add_zero, fst_year]
  decide

/-- the day d lies in the period p -/
def Per (p : Nat) (d : Int) : Prop := fst p ≤ d ∧ d < fst (p + 1)
theorem Per.get (n : Nat) (d : Int) (h0 : 0 ≤ d) (h : d < fst n) : ∃ p, p < n ∧ Per p d := by
  induction n with
  | zero => simp [fst] at h; omega
  | succ n ih =>
    by_cases e : d < fst n
    · obtain ⟨p, hp, h⟩ := ih e
      exact ⟨p, by omega, h⟩
    · exact ⟨n, by omega, by omega, h⟩
theorem Per.of_day (d : Int) (h0 : 0 ≤ d) (h : d ≤ 182620) : ∃ k r : Nat, k < 500 ∧ r < 12 ∧ Per (12 * k + r) d := by
  obtain ⟨p, hp, h⟩ := Per.get 6000 d h0 (by rw [fst_end]; omega)
  refine ⟨p / 12, p % 12, by omega, by omega, ?_⟩
  rw [show 12 * (p / 12) + p % 12 = p by omega]
  exact h
theorem Per.le_iff {p : Nat} {d : Int} (h : Per p d) (q : Nat) : fst q ≤ d ↔ q ≤ p := by
  constructor
  · intro h1
    by_cases e : q ≤ p
    · exact e
    · have := fst_mono (show p + 1 ≤ q by omega)
      have := h.2
      omega
  · intro h1
    have := fst_mono h1
    have := h.1
    omega
theorem Per.uniq {p q : Nat} {d : Int} (h : Per p d) (g : Per q d) : p = q := by
  have h1 := (h.le_iff q).1 g.1
  have h2 := (g.le_iff p).1 h.1
  omega
theorem count_lt (n q : Nat) (f : Nat → Bool) (h : ∀ i, f i = decide (i < q)) (hq : q ≤ n) : (List.range n).countP f = q := by
  have aux : ∀ n, (List.range n).countP f = min n q := by
    intro n
    induction n with
    | zero => simp
    | succ n ih =>
      rw [List.range_succ, List.countP_append, ih, List.countP_singleton, h]
      by_cases e : n < q
      · simp [e]; omega
      · simp [e]; omega
  rw [aux]; omega
/-- how many of the first 5999 periods end before the day -/
theorem Per.count {p : Nat} {d : Int} (h : Per p d) (hp : p ≤ 5999) : (List.range 5999).countP (fun i => !decide (d ≤ fst (i + 1) - 1)) = p := by
  refine count_lt _ _ _ (fun i => ?_) hp
  have := h.le_iff (i + 1)
  by_cases e : i < p
  · have h1 : fst (i + 1) ≤ d := this.2 (by omega)
    simp [e]; omega
  · have h1 : ¬ fst (i + 1) ≤ d := fun h2 => by have := this.1 h2; omega
    simp [e]; omega

/-- a valid date -/
def vdI (y m d : Int) : Bool := decide (1900 ≤ y) && decide (y ≤ 2399) && decide (1 ≤ m) && decide (m ≤ 12) && decide (1 ≤ d) && decide (d ≤ mlI y m)
theorem vd_true {y m d : Int} (h : vdI y m d = true) : ∃ k r : Nat, k < 500 ∧ r < 12 ∧ y = 1900 + (k : Int) ∧ m = (r : Int) + 1 ∧ 1 ≤ d ∧ d ≤ mlI (1900 + (k : Int)) ((r : Int) + 1) := by
  simp [vdI] at h
  obtain ⟨⟨⟨⟨⟨h1, h2⟩, h3⟩, h4⟩, h5⟩, h6⟩ := h
  obtain ⟨k, hk⟩ := Int.eq_ofNat_of_zero_le (show 0 ≤ y - 1900 by omega)
  obtain ⟨r, hr⟩ := Int.eq_ofNat_of_zero_le (show 0 ≤ m - 1 by omega)
  obtain rfl : y = 1900 + (k : Int) := by omega
  obtain rfl : m = (r : Int) + 1 := by omega
  exact ⟨k, r, by omega, by omega, rfl, rfl, h5, h6⟩
theorem vd_false {y m d : Int} (h : vdI y m d = false) : y < 1900 ∨ 2399 < y ∨ (1900 ≤ y ∧ y ≤ 2399 ∧ (m < 1 ∨ 12 < m ∨ (1 ≤ m ∧ m ≤ 12 ∧ (d < 1 ∨ (1 ≤ d ∧ mlI y m < d))))) := by
  by_cases h1 : 1900 ≤ y
  · by_cases h2 : y ≤ 2399
    · by_cases h3 : 1 ≤ m
      · by_cases h4 : m ≤ 12
        · by_cases h5 : 1 ≤ d
          · by_cases h6 : d ≤ mlI y m
            · simp [vdI, h1, h2, h3, h4, h5, h6] at h
            · omega
          · omega
        · omega
      · omega
    · omega
  · omega
end Go.Proofs.YtffnmejabphabaaDoor
