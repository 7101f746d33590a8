/- Plain facts on the reference's long division. No program here. -/
import Derived.Test.YtlgcflapgdkghabDoorDiv3M
import Derived.Laws.BitsAllLaws
namespace Go.Proofs.YtlgcflapgdkghabDoor
open Go

/-- the quotient's digit is not above the guess, also where the guess is cut to a limb -/
theorem rguess_ge {U V q top high P : Nat} (hh : 0 < high) (hq : q * V ≤ U) (hu : U < (top + 1) * P) (hv : high * P ≤ V) (hUV : U < V * 4294967296) : q ≤ min (top / high) 4294967295 := by
  have h1 := guess_ge hh hq hu hv
  have h2 := quo_lt_base hq hUV
  omega
/-- one limb of the difference with a multiple: the plain numbers -/
theorem rsub_limb {x lo b d t b' : Nat} (hx : x < 4294967296) (hlo : lo < 4294967296) (hb : b ≤ 1) (hd : d = x + 4294967296 - lo - b) (ht : t = d % 4294967296) (hb' : b' = 1 - d / 4294967296) : x + b' * 4294967296 = t + lo + b ∧ b' ≤ 1 ∧ d < 8589934592 ∧ d / 4294967296 ≤ 1 ∧ lo + b ≤ x + 4294967296 := by
  subst hd ht hb'; omega
/-- the highest limb -/
theorem rtop {V0 g D U0 K P x : Nat} (h : V0 + g * D = U0 + K * P) (hK : K ≤ 4294967296) (hx : x < 4294967296) :
    (K ≤ x → V0 + (x - K) * P + g * D = U0 + x * P) ∧ (x < K → x + 4294967296 - K < 4294967296 ∧ V0 + (x + 4294967296 - K) * P + g * D = U0 + x * P + P * 4294967296) := by
  constructor
  · intro hk
    obtain ⟨y, rfl⟩ : ∃ y, x = K + y := ⟨x - K, by omega⟩
    rw [Nat.add_sub_cancel_left, Nat.add_mul]; omega
  · intro hk
    refine ⟨by omega, ?_⟩
    obtain ⟨y, hy⟩ : ∃ y, x + 4294967296 = K + y := ⟨x + 4294967296 - K, by omega⟩
    rw [hy, Nat.add_sub_cancel_left]
    have e : (x + 4294967296) * P = (K + y) * P := by rw [hy]
    rw [Nat.add_mul, Nat.add_mul] at e
    rw [Nat.mul_comm P]; omega
/-- a guess that fits -/
theorem rfit {W g D U q : Nat} (h : W + g * D = U) (hq : U < (q + 1) * D) (hg : q ≤ g) : W < D := by
  have h1 : (q + 1) * D ≤ (g + 1) * D := Nat.mul_le_mul_right _ (by omega)
  have h2 : (g + 1) * D = g * D + D := Nat.succ_mul ..
  omega
/-- a guess that is too great is at least 1 -/
theorem rover_pos {W g D U Q : Nat} (h : W + g * D = U + Q) (hW : W < Q) : 1 ≤ g := by
  rcases Nat.eq_zero_or_pos g with e | e
  · subst e; omega
  · exact e
/-- the divisor added back once -/
theorem rback {W W' c g D U Q : Nat} (h : W + g * D = U + Q) (hW : W < Q) (hD : D < Q) (hb : W' + c * Q = W + D) :
    c ≤ 1 ∧ (c = 1 → W' + (g - 1) * D = U ∧ W' < D) ∧ (c = 0 → W' + (g - 1) * D = U + Q) := by
  have hg := rover_pos h hW
  obtain ⟨k, rfl⟩ : ∃ k, g = k + 1 := ⟨g - 1, by omega⟩
  rw [Nat.succ_mul] at h
  rw [Nat.add_sub_cancel]
  refine ⟨?_, ?_, ?_⟩
  · rcases Nat.lt_or_ge 1 c with e | e
    · have : 2 * Q ≤ c * Q := Nat.mul_le_mul_right _ e
      omega
    · exact e
  · intro e; subst e; omega
  · intro e; subst e; omega
/-- the loop that counts the shift -/
theorem rshift_test {x s : Nat} (hx : 0 < x) (hs : s + bl x ≤ 32) : (x * 2 ^ s % 4294967296 / 2147483648 = 0 ↔ s + bl x < 32) := by
  have h1 := bl_self x
  have h2 : x * 2 ^ s < 2 ^ bl x * 2 ^ s := Nat.mul_lt_mul_of_pos_right h1 (Nat.two_pow_pos s)
  rw [← Nat.pow_add] at h2
  have h3 : 2 ^ (bl x + s) ≤ 2 ^ 32 := Nat.pow_le_pow_right (by omega) (by omega)
  rw [show (2 : Nat) ^ 32 = 4294967296 by rfl] at h3
  rw [Nat.mod_eq_of_lt (by omega)]
  constructor
  · intro h
    rcases Nat.lt_or_ge (s + bl x) 32 with e | e
    · exact e
    · have z := bl_pos hx
      · have h4 := bl_low z
        have h5 : 2 ^ (bl x - 1) * 2 ^ s ≤ x * 2 ^ s := Nat.mul_le_mul_right _ h4
        rw [← Nat.pow_add, show bl x - 1 + s = 31 by omega, show (2 : Nat) ^ 31 = 2147483648 by rfl] at h5
        omega
  · intro h
    have h4 : 2 ^ (bl x + s) ≤ 2 ^ 31 := Nat.pow_le_pow_right (by omega) (by omega)
    rw [show (2 : Nat) ^ 31 = 2147483648 by rfl] at h4
    omega
/-- the shift to the right in place: one limb -/
theorem rshr_limb {x y s : Nat} (hx : x < 4294967296) (hs : s < 32) : x / 2 ^ s ||| (y * 2 ^ (32 - s) % 4294967296) = (x + y * 4294967296) / 2 ^ s % 4294967296 ∧ x / 2 ^ s < 4294967296 := by
  have hp := two_pow_split (show s ≤ 32 by omega)
  have hT := Nat.two_pow_pos s
  have hlt : x / 2 ^ s < 2 ^ (32 - s) := by
    rw [Nat.div_lt_iff_lt_mul hT, Nat.mul_comm, hp]; exact hx
  have hd : 2 ^ (32 - s) ∣ 4294967296 := ⟨2 ^ s, by rw [Nat.mul_comm]; exact hp.symm⟩
  have h3 : y * 2 ^ (32 - s) % 4294967296 % 2 ^ (32 - s) = 0 := by rw [Nat.mod_mod_of_dvd _ hd]; exact Nat.mul_mod_left _ _
  have h4 := nat_join (32 - s) _ (x / 2 ^ s) h3 hlt
  have hle : x / 2 ^ s ≤ x := Nat.div_le_self _ _
  refine ⟨?_, by omega⟩
  have h5 : y * 4294967296 = 2 ^ s * (y * 2 ^ (32 - s)) := by rw [← hp]; grind
  rw [h5, Nat.add_mul_div_left _ _ hT]
  have h6 : (x / 2 ^ s + y * 2 ^ (32 - s)) % 4294967296 = x / 2 ^ s + y * 2 ^ (32 - s) % 4294967296 := by
    obtain ⟨z, hz⟩ := hd
    obtain ⟨k, hk⟩ : ∃ k, k = y % 2 ^ s := ⟨_, rfl⟩
    have e1 : y * 2 ^ (32 - s) % 4294967296 = k * 2 ^ (32 - s) := by
      rw [← hp, Nat.mul_mod_mul_right, hk]
    have hk2 : k < 2 ^ s := by rw [hk]; exact Nat.mod_lt _ hT
    have e2 : (k + 1) * 2 ^ (32 - s) ≤ 2 ^ s * 2 ^ (32 - s) := Nat.mul_le_mul_right _ hk2
    rw [hp, Nat.succ_mul] at e2
    rw [e1, Nat.add_mod, e1, Nat.mod_eq_of_lt (show x / 2 ^ s < 4294967296 by omega), Nat.mod_eq_of_lt (by omega)]
  rw [h6, Nat.or_comm, h4]; exact Nat.add_comm _ _
end Go.Proofs.YtlgcflapgdkghabDoor
