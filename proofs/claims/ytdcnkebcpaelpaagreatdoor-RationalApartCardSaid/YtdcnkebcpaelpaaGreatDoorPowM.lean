import Derived.Test.YtdcnkebcpaelpaaGreatDoorNum
/- Plain facts on powers by squaring. No program here. -/
namespace Go.Proofs.YtdcnkebcpaelpaaGreatDoor

theorem pow_le_of {N j k : Nat} (h : j ≤ k) : N ^ j ≤ N ^ k + 1 := by
  rcases Nat.eq_zero_or_pos N with e | e
  · subst e
    rcases Nat.eq_zero_or_pos j with z | z
    · subst z; simp
    · rw [Nat.zero_pow z]; exact Nat.zero_le _
  · have := Nat.pow_le_pow_right e h; omega
theorem sm_pow {N j k K : Nat} (h : Sm (N ^ k + 1) K) (hj : j ≤ k) : Sm (N ^ j) K := Sm.of_le h (pow_le_of hj)
theorem bit_step (k j : Nat) : k / 2 ^ j = 2 * (k / 2 ^ (j + 1)) + k / 2 ^ j % 2 := by
  rw [Nat.pow_succ, ← Nat.div_div_eq_div_mul]; omega
theorem pow_sq (N e : Nat) : N ^ e * N ^ e = N ^ (2 * e) := by rw [← Nat.pow_add]; congr 1; omega
theorem pow_sq1 (N e : Nat) : N ^ (2 * e) * N = N ^ (2 * e + 1) := (Nat.pow_succ N (2 * e)).symm
theorem div_bl (k : Nat) : k / 2 ^ bl k = 0 := Nat.div_eq_of_lt (bl_self k)

/-- the two factors of a power stay below N^k + N + 1 -/
theorem raise_le {N k o n i : Nat} (h : o * n ^ i = N ^ k) (hn : N = 0 → n = 0 ∧ o ≤ 1) (h0 : 0 < i) : n ≤ N ^ k + N + 1 ∧ o ≤ N ^ k + N + 1 ∧ o * n ≤ N ^ k + N + 1 ∧ (2 ≤ i → n * n ≤ N ^ k + N + 1) := by
  rcases Nat.eq_zero_or_pos N with e | e
  · obtain ⟨rfl, ho⟩ := hn e
    refine ⟨by omega, by omega, by rw [Nat.mul_zero]; omega, fun _ => by omega⟩
  · have hp : 0 < N ^ k := Nat.pow_pos e
    have ho : 0 < o := Nat.pos_of_ne_zero (fun z => by rw [z, Nat.zero_mul] at h; omega)
    have hni : 0 < n ^ i := Nat.pos_of_ne_zero (fun z => by rw [z, Nat.mul_zero] at h; omega)
    have hn1 : 0 < n := Nat.pos_of_ne_zero (fun z => by rw [z, Nat.zero_pow h0] at hni; omega)
    have a1 : o * 1 ≤ o * n ^ i := Nat.mul_le_mul_left _ hni
    have a2 : n ^ 1 ≤ n ^ i := Nat.pow_le_pow_right hn1 h0
    have a3 : 1 * n ^ i ≤ o * n ^ i := Nat.mul_le_mul_right _ ho
    have a4 : o * n ≤ o * n ^ i := Nat.mul_le_mul_left _ (by rwa [Nat.pow_one] at a2)
    rw [Nat.pow_one] at a2
    refine ⟨by omega, by omega, by omega, fun h2 => ?_⟩
    have a5 : n ^ 2 ≤ n ^ i := Nat.pow_le_pow_right hn1 h2
    rw [Nat.pow_two] at a5
    omega
theorem raise_odd {o n i m : Nat} (hi : i % 2 = 1) (h : o * n ^ i = m) : (o * n) * (n * n) ^ (i / 2) = m := by
  rw [← h, ← Nat.pow_two, ← Nat.pow_mul, Nat.mul_assoc, Nat.mul_comm n, ← Nat.pow_succ]
  congr 2; omega
theorem raise_even {o n i m : Nat} (hi : i % 2 = 0) (h : o * n ^ i = m) : o * (n * n) ^ (i / 2) = m := by
  rw [← h, ← Nat.pow_two, ← Nat.pow_mul]
  congr 2; omega

/-- the errors of a power -/
def powWhy (N : Nat) (k : Int) : Int := if k < 0 then 10 else if k = 0 ∨ bl N ≤ 1 then 0 else if 131071 / k.toNat < bl N - 1 ∨ 131072 < bl (N ^ k.toNat) then 11 else 0
def powRes (N : Nat) (k : Int) : Nat := if powWhy N k = 0 then N ^ k.toNat else 0
theorem bl_small {N k : Nat} (h : bl N ≤ 1) (hk : 0 < k) : N ^ k = N := by
  have h1 := bl_le.1 h
  have h2 : N = 0 ∨ N = 1 := by omega
  rcases h2 with rfl | rfl
  · exact Nat.zero_pow hk
  · exact Nat.one_pow k
/-- a power within the limit has few limbs -/
theorem pow_sm {N k : Nat} (h1 : 2 ≤ bl N) (hk : 0 < k) (h : bl N - 1 ≤ 131071 / k) : Sm (N ^ k + N + 1) 8194 ∧ k ≤ 131071 := by
  have a1 : (bl N - 1) * k ≤ 131071 := (Nat.le_div_iff_mul_le hk).1 h
  have a2 : 1 * k ≤ (bl N - 1) * k := Nat.mul_le_mul_right _ (by omega)
  have a3 : bl N * k ≤ 262142 := by
    have : bl N * k = (bl N - 1) * k + k := by rw [← Nat.succ_mul]; congr 1; omega
    omega
  obtain ⟨E, hE⟩ : ∃ E : Nat, E = 262143 := ⟨_, rfl⟩
  obtain ⟨F, hF⟩ : ∃ F : Nat, F = 131072 := ⟨_, rfl⟩
  have a4 : N ^ k < 2 ^ E := by
    have b1 : N ^ k ≤ (2 ^ bl N) ^ k := Nat.pow_le_pow_left (Nat.le_of_lt (bl_self N)) k
    rw [← Nat.pow_mul] at b1
    exact Nat.lt_of_le_of_lt b1 (Nat.pow_lt_pow_right (by omega) (by omega))
  have a5 : bl N ≤ F := by
    have : (bl N - 1) * 1 ≤ (bl N - 1) * k := Nat.mul_le_mul_left _ hk
    omega
  have a6 : N < 2 ^ F := bl_le.1 a5
  have a7 : 2 ^ F ≤ 2 ^ E := Nat.pow_le_pow_right (by omega) (by omega)
  refine ⟨⟨?_, by omega⟩, by omega⟩
  rw [pw_two, show 32 * 8194 = E + 65 by omega, Nat.pow_add]
  have a8 : 2 ^ E * 4 ≤ 2 ^ E * 2 ^ 65 := Nat.mul_le_mul_left _ (by decide)
  have a9 : 1 ≤ 2 ^ E := Nat.two_pow_pos _
  omega
end Go.Proofs.YtdcnkebcpaelpaaGreatDoor
