/- Plain facts on integer roots and Newton's method. No program here. -/
import Derived.Test.YtaggodjplgmmhaaDoorMath
namespace Go.Proofs.YtaggodjplgmmhaaDoor

theorem two_mul_le_sq (r R : Nat) : 2 * (r * R) ≤ R * R + r * r := by
  rcases Nat.le_total r R with h | h
  · obtain ⟨d, rfl⟩ := Nat.exists_eq_add_of_le h
    have : (r + d) * (r + d) + r * r = 2 * (r * (r + d)) + d * d := by grind
    omega
  · obtain ⟨d, rfl⟩ := Nat.exists_eq_add_of_le h
    have : R * R + (R + d) * (R + d) = 2 * ((R + d) * R) + d * d := by grind
    omega
/-- the mean of k numbers is not less than their geometric mean -/
theorem mean_ge (r R k : Nat) : (k + 1) * r * R ^ k ≤ k * R ^ (k + 1) + r ^ (k + 1) := by
  induction k with
  | zero => simp
  | succ k ih =>
    have h1 := Nat.mul_le_mul_right r ih
    have h2 : (k + 1) * R ^ k * (2 * (r * R)) ≤ (k + 1) * R ^ k * (R * R + r * r) := Nat.mul_le_mul_left _ (two_mul_le_sq r R)
    have e1 : (k + 1) * r * R ^ k * r = (k + 1) * R ^ k * (r * r) := by grind
    have e2 : (k * R ^ (k + 1) + r ^ (k + 1)) * r = k * r * R ^ (k + 1) + r ^ (k + 1 + 1) := by rw [Nat.pow_succ r (k + 1)]; grind
    have e3 : (k + 1) * R ^ k * (2 * (r * R)) = 2 * ((k + 1) * r * R ^ (k + 1)) := by rw [Nat.pow_succ R k]; grind
    have e4 : (k + 1) * R ^ k * (R * R + r * r) = (k + 1) * R ^ (k + 1 + 1) + (k + 1) * R ^ k * (r * r) := by rw [Nat.pow_succ R (k + 1), Nat.pow_succ R k]; grind
    have e5 : (k + 1 + 1) * r * R ^ (k + 1) + k * r * R ^ (k + 1) = 2 * ((k + 1) * r * R ^ (k + 1)) := by grind
    rw [e1, e2] at h1
    rw [e3, e4] at h2
    omega
/-- r is the k-th root of n, rounded down -/
def IsRoot (n k r : Nat) : Prop := r ^ k ≤ n ∧ n < (r + 1) ^ k
/-- no number above R has a k-th power of n at most -/
def Above (n k R : Nat) : Prop := ∀ r, r ^ k ≤ n → r ≤ R
theorem Above.lt {n k R : Nat} (h : Above n k R) : n < (R + 1) ^ k := by
  rcases Nat.lt_or_ge n ((R + 1) ^ k) with e | e
  · exact e
  · have := h _ e; omega
theorem above_of {n k R : Nat} (h : n < (R + 1) ^ k) : Above n k R := fun r hr => by
  rcases Nat.lt_or_ge R r with e | e
  · have := Nat.pow_le_pow_left (show R + 1 ≤ r by omega) k; omega
  · exact e
/-- Newton's step stays above the root -/
theorem Above.next {n k R : Nat} (hR : 0 < R) : Above n (k + 1) ((R * k + n / R ^ k) / (k + 1)) := fun r hr => by
  rw [Nat.le_div_iff_mul_le (by omega)]
  have h1 := mean_ge r R k
  have hp : 0 < R ^ k := Nat.pow_pos hR
  rcases Nat.lt_or_ge (R * k) (r * (k + 1)) with e | e
  · obtain ⟨d, hd⟩ := Nat.exists_eq_add_of_lt e
    have e1 : (d + 1) * R ^ k ≤ n := by
      have e2 : (k + 1) * r * R ^ k = k * R ^ (k + 1) + (d + 1) * R ^ k := by
        rw [Nat.mul_comm (k + 1) r, hd, Nat.pow_succ]; grind
      omega
    have := (Nat.le_div_iff_mul_le hp).2 e1
    omega
  · exact Nat.le_trans e (Nat.le_add_right _ _)
/-- where it stops descending the root is found -/
theorem newton_stop {n k R : Nat} (h : Above n (k + 1) R) (hR : 0 < R) (hs : R ≤ (R * k + n / R ^ k) / (k + 1)) : IsRoot n (k + 1) R := by
  refine ⟨?_, h.lt⟩
  rw [Nat.le_div_iff_mul_le (by omega)] at hs
  have h1 : R ≤ n / R ^ k := by rw [Nat.mul_succ] at hs; omega
  have := (Nat.le_div_iff_mul_le (Nat.pow_pos hR)).1 h1
  rw [Nat.pow_succ, Nat.mul_comm]; exact this
/-- the start from the root of the leading bits -/
theorem above_start {n k l r : Nat} (h : IsRoot (n / 2 ^ (l * k)) k r) : Above n k ((r + 1) * 2 ^ l) := by
  refine above_of ?_
  have h1 : n / 2 ^ (l * k) + 1 ≤ (r + 1) ^ k := h.2
  have h2 : n < (n / 2 ^ (l * k) + 1) * 2 ^ (l * k) := by
    have := Nat.div_add_mod n (2 ^ (l * k))
    have h3 := Nat.mod_lt n (Nat.two_pow_pos (l * k))
    rw [Nat.add_mul, Nat.mul_comm]; omega
  have h3 : (n / 2 ^ (l * k) + 1) * 2 ^ (l * k) ≤ ((r + 1) * 2 ^ l) ^ k := by
    rw [Nat.mul_pow, ← Nat.pow_mul]; exact Nat.mul_le_mul_right _ h1
  have h4 := Nat.pow_le_pow_left (Nat.le_succ ((r + 1) * 2 ^ l)) k
  exact Nat.lt_of_lt_of_le h2 (Nat.le_trans h3 h4)
theorem isRoot_one {n k : Nat} (h0 : 0 < n) (h : n < 2 ^ k) : IsRoot n k 1 := ⟨by rw [Nat.one_pow]; exact h0, h⟩
theorem isRoot_zero {k : Nat} (hk : 0 < k) : IsRoot 0 k 0 := ⟨by rw [Nat.zero_pow hk]; exact Nat.le_refl 0, by rw [Nat.one_pow]; omega⟩
theorem IsRoot.unique {n k r s : Nat} (h1 : IsRoot n k r) (h2 : IsRoot n k s) : r = s := by
  rcases Nat.lt_trichotomy r s with e | e | e
  · have := Nat.pow_le_pow_left (show r + 1 ≤ s from e) k; have := h1.2; have := h2.1; omega
  · exact e
  · have := Nat.pow_le_pow_left (show s + 1 ≤ r from e) k; have := h2.2; have := h1.1; omega
theorem IsRoot.le {n k r : Nat} (h : IsRoot n k r) (hk : 0 < k) : r ≤ n := by
  rcases Nat.eq_zero_or_pos r with e | e
  · omega
  · have h1 : r ^ 1 ≤ r ^ k := Nat.pow_le_pow_right e hk
    rw [Nat.pow_one] at h1
    exact Nat.le_trans h1 h.1
/-- the size of the root and the bits that are left off -/
theorem rs_facts {b k : Nat} (hk : 0 < k) (h : k < b) : 2 ≤ (b + k - 1) / k ∧ ((b + k - 1) / k - 1) * k ≤ b - 1 := by
  have h1 : 2 ≤ (b + k - 1) / k := (Nat.le_div_iff_mul_le hk).2 (by omega)
  have h2 : (b + k - 1) / k * k ≤ b + k - 1 := Nat.div_mul_le_self _ _
  refine ⟨h1, ?_⟩
  rw [Nat.sub_mul, Nat.one_mul]
  omega
theorem low_le {b k rs l : Nat} (h : k < b) (h2 : (rs - 1) * k ≤ b - 1) (hl : l = 1 ∨ l ≤ rs - 1) : l * k ≤ b - 1 := by
  rcases hl with rfl | h3
  · omega
  · exact Nat.le_trans (Nat.mul_le_mul_right k h3) h2
/-- the high part is not zero, and smaller -/
theorem high_pos {N b z : Nat} (hb : 2 ^ (b - 1) ≤ N) (hz : z ≤ b - 1) : 0 < N / 2 ^ z :=
  Nat.div_pos (Nat.le_trans (Nat.pow_le_pow_right (by omega) hz) hb) (Nat.two_pow_pos z)
theorem high_lt {N z : Nat} (hN : 0 < N) (hz : 0 < z) : N / 2 ^ z < N :=
  Nat.div_lt_self hN (Nat.one_lt_two_pow (by omega))
/-- the start is not too large -/
theorem start_le {N k l R : Nat} (hr : IsRoot (N / 2 ^ (l * k)) k R) (h0 : 0 < N / 2 ^ (l * k)) : ((R + 1) * 2 ^ l) ^ k ≤ 2 ^ k * N := by
  have hR : 0 < R := by
    rcases Nat.eq_zero_or_pos R with e | e
    · have := hr.2; rw [e, Nat.zero_add, Nat.one_pow] at this; omega
    · exact e
  have h1 : (R + 1) ^ k ≤ (2 * R) ^ k := Nat.pow_le_pow_left (by omega) k
  rw [Nat.mul_pow, ← Nat.pow_mul]
  refine Nat.le_trans (Nat.mul_le_mul_right _ h1) ?_
  rw [Nat.mul_pow, Nat.mul_assoc]
  refine Nat.mul_le_mul_left _ ?_
  exact Nat.le_trans (Nat.mul_le_mul_right _ hr.1) (Nat.div_mul_le_self _ _)
/-- the low part of the root's size -/
theorem low_facts (rs bk : Nat) (y : Int) (hrs : 2 ≤ rs) (hy : Int.tdiv ((rs : Int) - 1 - (bk : Int)) 2 = y) : ∃ l : Nat, max (1 : Int) y = (l : Int) ∧ (if y > 1 then y else (1 : Int)) = (l : Int) ∧ (l = 1 ∨ l ≤ rs - 1) ∧ 1 ≤ l ∧ -2000000 - (bk : Int) ≤ y ∧ y ≤ rs := by
  rcases Int.lt_or_le ((rs : Int) - 1 - (bk : Int)) 0 with h | h
  · have e : Int.tdiv ((rs : Int) - 1 - (bk : Int)) 2 = -(Int.tdiv (-((rs : Int) - 1 - (bk : Int))) 2) := by rw [Int.neg_tdiv, Int.neg_neg]
    rw [e, Int.tdiv_eq_ediv_of_nonneg (by omega)] at hy
    exact ⟨1, by omega, if_neg (by omega), .inl rfl, by omega, by omega, by omega⟩
  · rw [Int.tdiv_eq_ediv_of_nonneg h] at hy
    rcases Int.lt_or_le 1 y with h1 | h1
    · exact ⟨y.toNat, by omega, by rw [if_pos h1]; omega, .inr (by omega), by omega, by omega, by omega⟩
    · exact ⟨1, by omega, if_neg (by omega), .inl rfl, by omega, by omega, by omega⟩
end Go.Proofs.YtaggodjplgmmhaaDoor
