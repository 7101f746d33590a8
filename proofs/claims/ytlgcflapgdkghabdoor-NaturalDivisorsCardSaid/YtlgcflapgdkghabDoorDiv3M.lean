/- Plain facts on one round of the long division, and its end. No program here. -/
import Derived.Test.YtlgcflapgdkghabDoorDivM
namespace Go.Proofs.YtlgcflapgdkghabDoor

theorem val_set (xs : List Nat) (p x : Nat) (h : p < xs.length) : val (xs.set p x) + lm xs p * pw p = val xs + x * pw p := by
  have e1 := val_split3 xs p 1 (by omega)
  have e2 := val_split3 (xs.set p x) p 1 (by rw [List.length_set]; omega)
  have e3 : vs xs p 1 = lm xs p := by simp [vs, pw]
  have e4 : vs (xs.set p x) p 1 = x := by simp [vs, pw, lm_set _ _ _ _ h]
  rw [e3] at e1
  rw [e4, vl_set_ge _ _ _ _ (Nat.le_refl _), drop_set_lt _ _ _ _ (by omega)] at e2
  rw [e1, e2]; grind
/-- the lists of one round: a stretch of the rest is turned, one limb of the quotient is laid -/
theorem div_round {cs cs' qs : List Nat} {p n d D A : Nat} (hl : cs'.length = cs.length) (hpn : p + n ≤ cs.length) (hsame : ∀ j, j < p ∨ p + n ≤ j → lm cs' j = lm cs j) (hv : vs cs' p n + d * D = vs cs p n)
    (hq : p < qs.length) (hz : lm qs p = 0) (hA : val qs * D + val cs = A) : val (qs.set p d) * D + val cs' = A := by
  have e1 := val_split3 cs p n hpn
  have e2 := val_split3 cs' p n (by omega)
  rw [vl_congr cs' cs p (fun j hj => hsame j (by omega)), drop_congr (p + n) hl (fun j hj => hsame j (by omega))] at e2
  have e3 := val_set qs p d hq
  rw [hz, Nat.zero_mul, Nat.add_zero] at e3
  have e4 : pw p * (vs cs' p n + d * D) = pw p * vs cs p n := by rw [hv]
  rw [e3, ← hA, e1, e2, Nat.add_mul, ← e4]; grind
/-- what is above the turned stretch is 0, so the rest is below the divisor -/
theorem div_drop {cs cs' : List Nat} {p n D : Nat} (hl : cs'.length = cs.length) (hpn : p + n ≤ cs.length) (hsame : ∀ j, j < p ∨ p + n ≤ j → lm cs' j = lm cs j) (h : val (cs.drop p) < pw n) (hD : vs cs' p n < D) : val (cs'.drop p) < D := by
  have e1 : val (cs'.drop p) = vs cs' p n := by
    have e2 := vl_split (cs'.drop p) n (by rw [List.length_drop]; omega)
    have e3 := vl_split (cs.drop p) n (by rw [List.length_drop]; omega)
    rw [List.drop_drop] at e2 e3
    rw [drop_congr (p + n) hl (fun j hj => hsame j (by omega))] at e2
    have e4 : val (cs.drop (p + n)) = 0 := by
      rcases Nat.eq_zero_or_pos (val (cs.drop (p + n))) with z | z
      · exact z
      · have : pw n * 1 ≤ pw n * val (cs.drop (p + n)) := Nat.mul_le_mul_left _ z
        omega
    rw [e4, Nat.mul_zero, Nat.add_zero] at e2
    rw [e2, vs_drop]
  rw [e1]; exact hD
/-- the stretch of the next round -/
theorem div_next {cs : List Nat} {p n D : Nat} (hp : p < cs.length) (hD : D < pw n) (h : val (cs.drop (p + 1)) < D) (hx : lm cs p < 4294967296) : val (cs.drop p) < D * 4294967296 ∧ val (cs.drop p) = vs cs p (n + 1) ∧ val (cs.drop p) < pw (n + 1) := by
  have e := val_drop cs p hp
  have h0 : (val (cs.drop (p + 1)) + 1) * 4294967296 ≤ D * 4294967296 := Nat.mul_le_mul_right _ h
  rw [Nat.add_mul, Nat.one_mul, Nat.mul_comm (val (cs.drop (p + 1)))] at h0
  have h1 : val (cs.drop p) < D * 4294967296 := by rw [e]; exact Nat.lt_of_lt_of_le (Nat.add_lt_add_right hx _) (by rw [Nat.add_comm]; exact h0)
  have h2 : val (cs.drop p) < pw (n + 1) := by
    rw [pw_succ]; exact Nat.lt_of_lt_of_le h1 (Nat.mul_le_mul_right _ (Nat.le_of_lt hD))
  exact ⟨h1, vs_of_lt h2, h2⟩
/-- no correction -/
theorem fix_none {V u d D : Nat} {P : Nat} (hv : V + d * D = u + (0 + 0) * P) (hlow : u < (d + 1) * D) : V + d * D = u ∧ V < D := by
  rw [Nat.add_mul] at hlow; omega
/-- one correction: the divisor added back -/
theorem fix_one {V W u d D P c : Nat} (hv : V + d * D = u + (1 + 0) * P) (hV : V < P) (hW : W < P) (hD : D < P) (hle : d * D ≤ u + D) (hb : W + c * P = V + D) : 1 ≤ d ∧ W + (d - 1) * D = u ∧ W < D := by
  have hd : 1 ≤ d := by
    rcases Nat.eq_zero_or_pos d with e | e
    · subst e; omega
    · exact e
  obtain ⟨e, rfl⟩ : ∃ e, d = e + 1 := ⟨d - 1, by omega⟩
  rw [Nat.add_sub_cancel]
  rw [Nat.add_mul] at hv hle
  have hc : c = 1 := by
    rcases Nat.lt_or_ge c 1 with h | h
    · have : c = 0 := by omega
      subst this; omega
    · rcases Nat.lt_or_ge 1 c with h2 | h2
      · have : 2 * P ≤ c * P := Nat.mul_le_mul_right _ h2
        omega
      · omega
  subst hc
  omega
/-- the end: both are multiplied by t -/
theorem div_end {Q R a b t : Nat} (h : Q * (b * t) + R = a * t) (hR : R < b * t) (ht : 0 < t) : Q = a / b ∧ R / t = a % b := by
  have hb : 0 < b := Nat.pos_of_ne_zero (fun e => by subst e; omega)
  have h1 : R = (a - Q * b) * t := by rw [Nat.sub_mul, Nat.mul_assoc]; omega
  have h2 : R / t = a - Q * b := by rw [h1, Nat.mul_div_cancel _ ht]
  have h3 : a - Q * b < b := by
    rw [h1] at hR; exact Nat.lt_of_mul_lt_mul_right hR
  have h4 : Q * b ≤ a := by
    have : Q * b * t ≤ a * t := by rw [Nat.mul_assoc]; omega
    exact Nat.le_of_mul_le_mul_right this ht
  obtain ⟨r, hr⟩ : ∃ r, r = a - Q * b := ⟨_, rfl⟩
  rw [← hr] at h2 h3
  have h5 : a = b * Q + r := by rw [Nat.mul_comm b Q]; omega
  rw [h2, h5]
  exact ⟨by rw [Nat.mul_add_div hb, Nat.div_eq_of_lt h3, Nat.add_zero], by rw [Nat.mul_add_mod, Nat.mod_eq_of_lt h3]⟩
end Go.Proofs.YtlgcflapgdkghabDoor
