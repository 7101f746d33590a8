/- Plain facts on Euclid's algorithm with Lehmer's step. No program here. -/
import Derived.Test.YtlgcflapgdkghabDoorMath
namespace Go.Proofs.YtlgcflapgdkghabDoor

/-- the signs of the cofactors: s tells whether the first pair's number comes first -/
def Rel (s : Bool) (u v x1 x2 y1 y2 U V : Nat) : Prop :=
  if s then u + y1 * V = x1 * U ∧ v + x2 * U = y2 * V ∧ x1 * y2 = x2 * y1 + 1 else u + x1 * U = y1 * V ∧ v + y2 * V = x2 * U ∧ x2 * y1 = x1 * y2 + 1
/-- where Euclid's algorithm on U, V stands: the pair u, v and its cofactors -/
structure LInv (U V u v x1 x2 y1 y2 : Nat) (s : Bool) : Prop where
  rel : Rel s u v x1 x2 y1 y2 U V
  hU : U = y2 * u + y1 * v
  hle : v ≤ u
  y12 : y1 ≤ y2
  y2p : 1 ≤ y2
  x2y : x2 ≤ y2
  x1y : x1 ≤ y1 ∨ (x1 = 1 ∧ y1 = 0 ∧ x2 = 0 ∧ y2 = 1)
  x2p : (y1 = 0 ∧ x1 = 1) ∨ 1 ≤ x2
  lt : U < 18446744073709551616
theorem LInv.start {U V : Nat} (h : V ≤ U) (hU : U < 18446744073709551616) : LInv U V U V 1 0 0 1 true :=
  ⟨by simp [Rel], by omega, h, by omega, by omega, by omega, .inr ⟨rfl, rfl, rfl, rfl⟩, .inl ⟨rfl, rfl⟩, hU⟩
theorem Rel.step {s : Bool} {u v x1 x2 y1 y2 U V q r : Nat} (h : Rel s u v x1 x2 y1 y2 U V) (e : u = v * q + r) : Rel (!s) v r x2 (x1 + q * x2) y2 (y1 + q * y2) U V := by
  subst e
  cases s
  · simp only [Rel, Bool.false_eq_true, if_false, Bool.not_false, if_true] at h ⊢
    obtain ⟨h1, h2, h3⟩ := h
    refine ⟨h2, ?_, by grind⟩
    have e1 : q * (x2 * U) = q * v + q * (y2 * V) := by rw [← h2]; grind
    grind
  · simp only [Rel, Bool.false_eq_true, if_false, Bool.not_true, if_true] at h ⊢
    obtain ⟨h1, h2, h3⟩ := h
    refine ⟨h2, ?_, by grind⟩
    have e1 : q * (y2 * V) = q * v + q * (x2 * U) := by rw [← h2]; grind
    grind
theorem LInv.step {U V u v x1 x2 y1 y2 : Nat} {s : Bool} (h : LInv U V u v x1 x2 y1 y2 s) (hv : 0 < v) : LInv U V v (u % v) x2 (x1 + u / v * x2) y2 (y1 + u / v * y2) (!s) := by
  have hq : 1 ≤ u / v := Nat.div_pos h.hle hv
  have e := (Nat.div_add_mod u v).symm
  have hm := Nat.mod_lt u hv
  obtain ⟨q, hq0⟩ : ∃ q, u / v = q := ⟨_, rfl⟩
  obtain ⟨r, hr0⟩ : ∃ r, u % v = r := ⟨_, rfl⟩
  rw [hq0, hr0] at e
  rw [hq0] at hq ⊢
  rw [hr0] at hm ⊢
  have hqy : 1 * y2 ≤ q * y2 := Nat.mul_le_mul_right _ hq
  have hqx : q * x2 ≤ q * y2 := Nat.mul_le_mul_left _ h.x2y
  refine ⟨h.rel.step e, ?_, by omega, by omega, by have := h.y2p; omega, ?_, .inl ?_, .inr ?_, h.lt⟩
  · rw [h.hU, e]; grind
  · rcases h.x1y with k | ⟨k1, k2, k3, k4⟩
    · omega
    · subst k1 k2 k3 k4; omega
  · exact h.x2y
  · have : 1 * x2 ≤ q * x2 := Nat.mul_le_mul_right _ hq
    rcases h.x2p with ⟨_, k⟩ | k <;> omega
/-- no cofactor exceeds a word -/
theorem LInv.next_lt {U V u v x1 x2 y1 y2 : Nat} {s : Bool} (h : LInv U V u v x1 x2 y1 y2 s) (hv : 0 < v) : y1 + u / v * y2 < 18446744073709551616 ∧ x1 + u / v * x2 ≤ y1 + u / v * y2 ∧ u / v * y2 < 18446744073709551616 ∧ u / v * x2 ≤ u / v * y2 := by
  have k := h.step hv
  have h1 := k.hU
  have h2 : (y1 + u / v * y2) * 1 ≤ (y1 + u / v * y2) * v := Nat.mul_le_mul_left _ hv
  have h3 := k.lt
  have h4 := k.x2y
  have h5 : u / v * x2 ≤ u / v * y2 := Nat.mul_le_mul_left _ h.x2y
  omega
theorem sq_lt {a b : Nat} (h : a * a < b * b) : a < b := by
  rcases Nat.lt_or_ge a b with k | k
  · exact k
  · have := Nat.mul_le_mul k k; omega
theorem LInv.sum_lt {U V u v x1 x2 y1 y2 : Nat} {s : Bool} (h : LInv U V u v x1 x2 y1 y2 s) (hv : y2 ≤ v) : y1 + y2 < 18446744073709551616 ∧ y2 < 4294967296 := by
  have h1 := h.hU
  have h2 : y2 * y2 ≤ y2 * u := Nat.mul_le_mul_left _ (Nat.le_trans hv h.hle)
  have h3 := h.lt
  have h4 : y2 < 4294967296 := sq_lt (by omega)
  have := h.y12
  omega
/-- what Lehmer's step gives on x and y -/
def LOut (x y x0 x1 y0 y1 : Nat) (s : Bool) : Prop :=
  x0 < 4294967296 ∧ x1 < 4294967296 ∧ y0 < 4294967296 ∧ y1 < 4294967296 ∧
    (0 < y0 → ∃ p q, Rel s p q x0 x1 y0 y1 x y ∧ q < p ∧ p ≤ y ∧ q < y)
theorem LOut.start (x y : Nat) (s : Bool) : LOut x y 0 1 0 0 s := ⟨by omega, by omega, by omega, by omega, by omega⟩
theorem comb {s : Bool} {p q x0 x1 y0 y1 x y : Nat} (h : Rel s p q x0 x1 y0 y1 x y) : y = x1 * p + x0 * q := by
  cases s
  · simp only [Rel, Bool.false_eq_true, if_false] at h
    obtain ⟨h1, h2, h3⟩ := h
    have e1 : x1 * (y0 * y) = x1 * p + x1 * (x0 * x) := by rw [← h1]; grind
    have e2 : x0 * (x1 * x) = x0 * q + x0 * (y1 * y) := by rw [← h2]; grind
    have e3 : x1 * y0 * y = x0 * y1 * y + y := by rw [h3]; grind
    grind
  · simp only [Rel, if_true] at h
    obtain ⟨h1, h2, h3⟩ := h
    have e1 : x1 * (x0 * x) = x1 * p + x1 * (y0 * y) := by rw [← h1]; grind
    have e2 : x0 * (y1 * y) = x0 * q + x0 * (x1 * x) := by rw [← h2]; grind
    have e3 : x0 * y1 * y = x1 * y0 * y + y := by rw [h3]; grind
    grind
theorem comb' {s : Bool} {p q x0 x1 y0 y1 x y : Nat} (h : Rel s p q x0 x1 y0 y1 x y) : x = y1 * p + y0 * q := by
  cases s
  · simp only [Rel, Bool.false_eq_true, if_false] at h
    obtain ⟨h1, h2, h3⟩ := h
    have e1 : y1 * (y0 * y) = y1 * p + y1 * (x0 * x) := by rw [← h1]; grind
    have e2 : y0 * (x1 * x) = y0 * q + y0 * (y1 * y) := by rw [← h2]; grind
    have e3 : x1 * y0 * x = x0 * y1 * x + x := by rw [h3]; grind
    grind
  · simp only [Rel, if_true] at h
    obtain ⟨h1, h2, h3⟩ := h
    have e1 : y1 * (x0 * x) = y1 * p + y1 * (y0 * y) := by rw [← h1]; grind
    have e2 : y0 * (y1 * y) = y0 * q + y0 * (x1 * x) := by rw [← h2]; grind
    have e3 : x0 * y1 * x = x1 * y0 * x + x := by rw [h3]; grind
    grind
theorem Rel.gcd {s : Bool} {p q x0 x1 y0 y1 x y : Nat} (h : Rel s p q x0 x1 y0 y1 x y) : Nat.gcd p q = Nat.gcd x y := by
  apply Nat.dvd_antisymm
  · refine Nat.dvd_gcd ?_ ?_
    · rw [comb' h]; exact Nat.dvd_add (Nat.dvd_trans (Nat.gcd_dvd_left p q) (Nat.dvd_mul_left _ _)) (Nat.dvd_trans (Nat.gcd_dvd_right p q) (Nat.dvd_mul_left _ _))
    · rw [comb h]; exact Nat.dvd_add (Nat.dvd_trans (Nat.gcd_dvd_left p q) (Nat.dvd_mul_left _ _)) (Nat.dvd_trans (Nat.gcd_dvd_right p q) (Nat.dvd_mul_left _ _))
  · have dx : ∀ k, Nat.gcd x y ∣ k * x := fun k => Nat.dvd_trans (Nat.gcd_dvd_left x y) (Nat.dvd_mul_left _ _)
    have dy : ∀ k, Nat.gcd x y ∣ k * y := fun k => Nat.dvd_trans (Nat.gcd_dvd_right x y) (Nat.dvd_mul_left _ _)
    cases s
    · simp only [Rel, Bool.false_eq_true, if_false] at h
      obtain ⟨h1, h2, _⟩ := h
      exact Nat.dvd_gcd ((Nat.dvd_add_left (dx x0)).1 (h1 ▸ dy y0)) ((Nat.dvd_add_left (dy y1)).1 (h2 ▸ dx x1))
    · simp only [Rel, if_true] at h
      obtain ⟨h1, h2, _⟩ := h
      exact Nat.dvd_gcd ((Nat.dvd_add_left (dy y0)).1 (h1 ▸ dx x0)) ((Nat.dvd_add_left (dx x1)).1 (h2 ▸ dy y1))
/-- a step that is sure for the leading bits is one for the numbers (Collins) -/
theorem lift_even {U V u v x1 x2 y1 y2 t xr yr : Nat} (h1 : u + y1 * V = x1 * U) (h2 : v + x2 * U = y2 * V) (hx : x2 ≤ y2) (hy2 : 0 < y2) (hv : y2 ≤ v) (hc : y1 + y2 ≤ u - v) (hr : xr < t) (hs : yr < t) :
    ∃ p q, p + y1 * (V * t + yr) = x1 * (U * t + xr) ∧ q + x2 * (U * t + xr) = y2 * (V * t + yr) ∧ q < p := by
  have e1 : u * t + y1 * V * t = x1 * U * t := by rw [← Nat.add_mul, h1]
  have e2 : v * t + x2 * U * t = y2 * V * t := by rw [← Nat.add_mul, h2]
  have a1 : y1 * yr ≤ y1 * t := Nat.mul_le_mul_left _ (by omega)
  have a2 : x2 * xr ≤ y2 * t := Nat.mul_le_mul hx (by omega)
  have a2' : y2 * yr < y2 * t := Nat.mul_lt_mul_of_pos_left hs hy2
  have a3 : y2 * t ≤ v * t := Nat.mul_le_mul_right _ hv
  have a4 : (y1 + y2 + v) * t ≤ u * t := Nat.mul_le_mul_right _ (by omega)
  rw [Nat.add_mul, Nat.add_mul] at a4
  refine ⟨u * t + x1 * xr - y1 * yr, v * t + y2 * yr - x2 * xr, ?_, ?_, ?_⟩
  · rw [Nat.mul_add, Nat.mul_add, ← Nat.mul_assoc, ← Nat.mul_assoc]; omega
  · rw [Nat.mul_add, Nat.mul_add, ← Nat.mul_assoc, ← Nat.mul_assoc]; omega
  · omega
theorem lift_odd {U V u v x1 x2 y1 y2 t xr yr : Nat} (h1 : u + x1 * U = y1 * V) (h2 : v + y2 * V = x2 * U) (hx : x1 ≤ y1) (hx2 : x2 ≤ y2) (hy2 : 0 < y2) (hv : y2 ≤ v) (hc : y1 + y2 ≤ u - v) (hr : xr < t) (hs : yr < t) :
    ∃ p q, p + x1 * (U * t + xr) = y1 * (V * t + yr) ∧ q + y2 * (V * t + yr) = x2 * (U * t + xr) ∧ q < p := by
  have e1 : u * t + x1 * U * t = y1 * V * t := by rw [← Nat.add_mul, h1]
  have e2 : v * t + y2 * V * t = x2 * U * t := by rw [← Nat.add_mul, h2]
  have a1 : x1 * xr ≤ y1 * t := Nat.mul_le_mul hx (by omega)
  have a2 : x2 * xr < y2 * t := Nat.lt_of_le_of_lt (Nat.mul_le_mul_right _ hx2) (Nat.mul_lt_mul_of_pos_left hr hy2)
  have a2' : y2 * yr < y2 * t := Nat.mul_lt_mul_of_pos_left hs hy2
  have a3 : y2 * t ≤ v * t := Nat.mul_le_mul_right _ hv
  have a4 : (y1 + y2 + v) * t ≤ u * t := Nat.mul_le_mul_right _ (by omega)
  rw [Nat.add_mul, Nat.add_mul] at a4
  refine ⟨u * t + y1 * yr - x1 * xr, v * t + x2 * xr - y2 * yr, ?_, ?_, ?_⟩
  · rw [Nat.mul_add, Nat.mul_add, ← Nat.mul_assoc, ← Nat.mul_assoc]; omega
  · rw [Nat.mul_add, Nat.mul_add, ← Nat.mul_assoc, ← Nat.mul_assoc]; omega
  · omega
theorem LInv.out {U V u v x1 x2 y1 y2 : Nat} {s : Bool} (h : LInv U V u v x1 x2 y1 y2 s) (hv : y2 ≤ v) (hc : y1 + y2 ≤ u - v) (t xr yr : Nat) (hr : xr < t) (hs : yr < t) : LOut (U * t + xr) (V * t + yr) x1 x2 y1 y2 s := by
  have hb := h.sum_lt hv
  have hy := h.y12
  have hx2 := h.x2y
  have hx1 : x1 < 4294967296 := by rcases h.x1y with k | ⟨k, _⟩ <;> omega
  refine ⟨hx1, by omega, by omega, by omega, fun hp => ?_⟩
  have hx1y : x1 ≤ y1 := by rcases h.x1y with k | ⟨_, k, _⟩ <;> omega
  have hrel := h.rel
  have key : ∃ p q, Rel s p q x1 x2 y1 y2 (U * t + xr) (V * t + yr) ∧ q < p := by
    cases s
    · simp only [Rel, Bool.false_eq_true, if_false] at hrel ⊢
      obtain ⟨p, q, k1, k2, k3⟩ := lift_odd hrel.1 hrel.2.1 hx1y hx2 h.y2p hv hc hr hs
      exact ⟨p, q, ⟨k1, k2, hrel.2.2⟩, k3⟩
    · simp only [Rel, if_true] at hrel ⊢
      obtain ⟨p, q, k1, k2, k3⟩ := lift_even hrel.1 hrel.2.1 hx2 h.y2p hv hc hr hs
      exact ⟨p, q, ⟨k1, k2, hrel.2.2⟩, k3⟩
  obtain ⟨p, q, k1, k2⟩ := key
  have hy2 := comb k1
  have hx2p : 1 ≤ x2 := by rcases h.x2p with ⟨k, _⟩ | k <;> omega
  have e1 : 1 * p ≤ x2 * p := Nat.mul_le_mul_right _ hx2p
  refine ⟨p, q, k1, k2, ?_, ?_⟩
  · rw [hy2]; omega
  · rw [hy2]; omega
end Go.Proofs.YtlgcflapgdkghabDoor
