/- Decimal digits: those of a number, group by group. -/
import Derived.Test.YtlgcflapgdkghabDoorDec
import Derived.Lib.ItoaNum
namespace Go.Proofs.YtlgcflapgdkghabDoor
open Go.RowKit

/-- nine digits, with zeros ahead -/
def padz (k g : Nat) : List UInt8 := List.replicate (k - (Lib.decDigits g).length) 48 ++ Lib.decDigits g
theorem dec_small {n : Nat} (h : n < 10) : Lib.decDigits n = [UInt8.ofNat (48 + n)] := by rw [Lib.decDigits, dif_pos h]
theorem dec_big {n : Nat} (h : 10 ≤ n) : Lib.decDigits n = Lib.decDigits (n / 10) ++ [UInt8.ofNat (48 + n % 10)] := by rw [Lib.decDigits, dif_neg (by omega)]
theorem dec_pos (n : Nat) : 0 < (Lib.decDigits n).length := by
  by_cases h : n < 10
  · rw [dec_small h]; simp
  · rw [dec_big (by omega)]; simp
theorem padz_succ (k g : Nat) : padz (k + 2) g = padz (k + 1) (g / 10) ++ [UInt8.ofNat (48 + g % 10)] := by
  by_cases h : g < 10
  · have e1 : g / 10 = 0 := by omega
    have e2 : g % 10 = g := by omega
    rw [padz, padz, e1, e2, dec_small h, dec_small (n := 0) (by omega)]
    simp only [List.length_cons, List.length_nil, Nat.add_sub_cancel]
    rw [show k + 2 - (0 + 1) = k + 1 by omega, List.replicate_succ']
    rfl
  · rw [padz, padz, dec_big (n := g) (by omega), List.length_append]
    have e : k + 2 - ((Lib.decDigits (g / 10)).length + [UInt8.ofNat (48 + g % 10)].length) = k + 1 - (Lib.decDigits (g / 10)).length := by simp
    rw [e, List.append_assoc]
theorem dec_split (k q g : Nat) (hq : 0 < q) (hg : g < 10 ^ (k + 1)) : Lib.decDigits (q * 10 ^ (k + 1) + g) = Lib.decDigits q ++ padz (k + 1) g := by
  induction k generalizing g with
  | zero =>
    have hg' : g < 10 := by simpa using hg
    have e : q * 10 ^ (0 + 1) + g = q * 10 + g := by simp
    rw [e, dec_big (by omega), show (q * 10 + g) / 10 = q by omega, show (q * 10 + g) % 10 = g by omega, padz, dec_small hg']
    rfl
  | succ k ih =>
    have e : q * 10 ^ (k + 1 + 1) = q * 10 ^ (k + 1) * 10 := by rw [Nat.pow_succ, ← Nat.mul_assoc]
    have hp : 0 < q * 10 ^ (k + 1) := Nat.mul_pos hq (Nat.pow_pos (by omega))
    have hg2 : g < 10 ^ (k + 1) * 10 := by rw [← Nat.pow_succ]; exact hg
    rw [e, dec_big (by omega), show (q * 10 ^ (k + 1) * 10 + g) / 10 = q * 10 ^ (k + 1) + g / 10 by omega, show (q * 10 ^ (k + 1) * 10 + g) % 10 = g % 10 by omega, ih (g / 10) (by omega), padz_succ, List.append_assoc]
theorem dec_group (q g : Nat) (hq : 0 < q) (hg : g < 1000000000) : Lib.decDigits (q * 1000000000 + g) = Lib.decDigits q ++ (List.replicate (9 - (Lib.decDigits g).length) 48 ++ Lib.decDigits g) := dec_split 8 q g hq hg
theorem dec_len_le (k g : Nat) (h : g < 10 ^ (k + 1)) : (Lib.decDigits g).length ≤ k + 1 := by
  induction k generalizing g with
  | zero => rw [dec_small (by simpa using h)]; simp
  | succ k ih =>
    by_cases hs : g < 10
    · rw [dec_small hs]; simp
    · rw [dec_big (by omega), List.length_append]
      have h2 : g < 10 ^ (k + 1) * 10 := by rw [← Nat.pow_succ]; exact h
      have := ih (g / 10) (by omega)
      simp; omega

/-- the number without its k lowest groups -/
def hi9 : Nat → Nat → Nat
  | 0, n => n
  | k + 1, n => hi9 k (n / 1000000000)
theorem hi9_zero (k : Nat) : hi9 k 0 = 0 := by
  induction k with
  | zero => rfl
  | succ k ih => rw [hi9]; exact ih
theorem hi9_succ (k n : Nat) : hi9 (k + 1) n = hi9 k n / 1000000000 := by
  induction k generalizing n with
  | zero => rfl
  | succ k ih => rw [hi9, ih, hi9]
theorem gp_get (n k : Nat) (h : k < (gp n).length) : lm (gp n) k = hi9 k n % 1000000000 ∧ 0 < hi9 k n := by
  induction k generalizing n with
  | zero =>
    by_cases h0 : n = 0
    · subst h0; simp [gp_zero] at h
    · rw [gp_pos n (by omega)]; exact ⟨rfl, by show 0 < n; omega⟩
  | succ k ih =>
    by_cases h0 : n = 0
    · subst h0; simp [gp_zero] at h
    · rw [gp_pos n (by omega)] at h ⊢
      rw [lm_cons_succ, hi9]
      exact ih _ (by simpa using h)
theorem gp_end (n : Nat) : hi9 (gp n).length n = 0 := by
  induction n using Nat.strongRecOn with
  | _ n ih =>
    by_cases h : n = 0
    · subst h; exact hi9_zero _
    · rw [gp_pos n (by omega), List.length_cons, hi9]; exact ih _ (by omega)

/-- the text behind i rounds: the i highest groups -/
def txt (n i : Nat) : List UInt8 := if i = 0 then [] else Lib.decDigits (hi9 ((gp n).length - i) n)
theorem txt_zero (n : Nat) : txt n 0 = [] := rfl
theorem txt_one (n i : Nat) (hi : i = 0) (h : 0 < (gp n).length) : txt n (i + 1) = Lib.decDigits (lm (gp n) ((gp n).length - 1 - i)) := by
  subst hi
  rw [txt, if_neg (by omega), (gp_get n _ (by omega)).1]
  have h2 := gp_end n
  rw [show (gp n).length = (gp n).length - 1 + 1 by omega, hi9_succ] at h2
  congr 1
  show hi9 ((gp n).length - (0 + 1)) n = hi9 ((gp n).length - 1 - 0) n % 1000000000
  rw [show (gp n).length - (0 + 1) = (gp n).length - 1 by omega, show (gp n).length - 1 - 0 = (gp n).length - 1 by omega]
  omega
theorem txt_succ (n i : Nat) (hi : 0 < i) (h : i < (gp n).length) : txt n (i + 1) = txt n i ++ (List.replicate (9 - (Lib.decDigits (lm (gp n) ((gp n).length - 1 - i))).length) 48 ++ Lib.decDigits (lm (gp n) ((gp n).length - 1 - i))) := by
  have g1 := gp_get n ((gp n).length - 1 - i) (by omega)
  have g2 := gp_get n ((gp n).length - i) (by omega)
  have e := hi9_succ ((gp n).length - 1 - i) n
  rw [show (gp n).length - 1 - i + 1 = (gp n).length - i by omega] at e
  rw [txt, if_neg (by omega), txt, if_neg (by omega), show (gp n).length - (i + 1) = (gp n).length - 1 - i by omega, g1.1, ← dec_group _ _ g2.2 (by omega)]
  congr 1
  omega
theorem txt_end (n : Nat) (h : 0 < (gp n).length) : txt n (gp n).length = Lib.decDigits n := by
  rw [txt, if_neg (by omega), Nat.sub_self]; rfl
end Go.Proofs.YtlgcflapgdkghabDoor
