import Derived.Test.YtobiepkhommeaaaGreatDoorPrts
import Derived.Lib.IndexMore
import Derived.Lib.TrimByte
/- Quantities: the first error, the units, the texts. No program here. -/
namespace Go.Proofs.YtobiepkhommeaaaGreatDoor
open Go.Lib

/-- the first error of a quantity -/
def qwhy (d c a : Int) : Int := if d < 1 ∨ 4 < d then 80 else if c < 1 ∨ 100 < c then 81 else if a < 1 ∨ 1099511627776 / c < a then 82 else 0
def qtot (d c a : Int) : Int := if qwhy d c a = 0 then c * a else 0
theorem qwhy_d {d c a : Int} (h : d < 1 ∨ 4 < d) : qwhy d c a = 80 := if_pos h
theorem qwhy_c {d c a : Int} (h : ¬ (d < 1 ∨ 4 < d)) (h2 : c < 1 ∨ 100 < c) : qwhy d c a = 81 := (if_neg h).trans (if_pos h2)
theorem qwhy_a {d c a : Int} (h : ¬ (d < 1 ∨ 4 < d)) (h2 : ¬ (c < 1 ∨ 100 < c)) (h3 : a < 1 ∨ 1099511627776 / c < a) : qwhy d c a = 82 := (if_neg h).trans ((if_neg h2).trans (if_pos h3))
theorem qwhy_ok {d c a : Int} (h : ¬ (d < 1 ∨ 4 < d)) (h2 : ¬ (c < 1 ∨ 100 < c)) (h3 : ¬ (a < 1 ∨ 1099511627776 / c < a)) : qwhy d c a = 0 := (if_neg h).trans ((if_neg h2).trans (if_neg h3))
theorem qwhy_zero {d c a : Int} : qwhy d c a = 0 ↔ (1 ≤ d ∧ d ≤ 4 ∧ 1 ≤ c ∧ c ≤ 100 ∧ 1 ≤ a ∧ a ≤ 1099511627776 / c) := by
  unfold qwhy
  split
  · constructor
    · intro h; omega
    · omega
  · split
    · constructor
      · intro h; omega
      · omega
    · split
      · constructor
        · intro h; omega
        · rename_i h; intro k; omega
      · constructor
        · intro _; omega
        · intro _; rfl
theorem qcap {c a : Int} (h1 : 1 ≤ c) (h : a ≤ 1099511627776 / c) : c * a ≤ 1099511627776 := by
  have h2 : (1099511627776 / c) * c ≤ 1099511627776 := Int.ediv_mul_le _ (by omega)
  have h3 : a * c ≤ (1099511627776 / c) * c := Int.mul_le_mul_of_nonneg_right h (by omega)
  rw [Int.mul_comm]; omega
theorem qa_le {c a : Int} (h1 : 1 ≤ c) (h0 : 1 ≤ a) (h : a ≤ 1099511627776 / c) : a ≤ 1099511627776 := by
  have h2 := qcap h1 h
  have h3 : 1 * a ≤ c * a := Int.mul_le_mul_of_nonneg_right h1 (by omega)
  omega
theorem qwhy_mag (d c a : Int) : 0 ≤ qwhy d c a ∧ qwhy d c a ≤ 82 := by
  unfold qwhy
  split
  · omega
  · split
    · omega
    · split <;> omega
theorem qtot_pos {d c a : Int} (h : qwhy d c a = 0) : 1 ≤ qtot d c a ∧ qtot d c a ≤ 1099511627776 := by
  obtain ⟨_, _, h1, _, h2, h3⟩ := qwhy_zero.1 h
  unfold qtot
  rw [if_pos h]
  have h4 : 1 * a ≤ c * a := Int.mul_le_mul_of_nonneg_right h1 (by omega)
  exact ⟨by omega, qcap h1 h3⟩

/-- a unit: its name, its dimension, its base units, whether only multiples are written in it -/
structure Un where
  name : List UInt8
  dim : Int
  size : Int
  flag : Bool
def Un.nil : Un := ⟨[], 0, 0, false⟩
/-- the units as the code has them -/
def cU : List Un := [⟨[107, 103], 1, 1000000, false⟩, ⟨[103], 1, 1000, false⟩, ⟨[109, 103], 1, 1, false⟩, ⟨[108], 2, 1000, false⟩, ⟨[99, 108], 2, 10, true⟩, ⟨[109, 108], 2, 1, false⟩, ⟨[109], 3, 1000, false⟩, ⟨[99, 109], 3, 10, true⟩, ⟨[109, 109], 3, 1, false⟩, ⟨[112, 99], 4, 1, false⟩]
/-- the units as the reference has them -/
def rU : List Un := [⟨[109, 103], 1, 1, false⟩, ⟨[103], 1, 1000, false⟩, ⟨[107, 103], 1, 1000000, false⟩, ⟨[109, 108], 2, 1, false⟩, ⟨[99, 108], 2, 10, true⟩, ⟨[108], 2, 1000, false⟩, ⟨[109, 109], 3, 1, false⟩, ⟨[99, 109], 3, 10, true⟩, ⟨[109], 3, 1000, false⟩, ⟨[112, 99], 4, 1, false⟩]
/-- the first unit that is sought -/
def firstU (p : Un → Bool) : Un := (cU.find? p).getD Un.nil
def namedU (l : List UInt8) : Un := firstU (fun u => u.name == l)
def stdU (d : Int) : Un := firstU (fun u => u.dim == d)
def suits (u : Un) (a : Int) : Bool := decide (u.size ≤ a) && (!u.flag || a % u.size == 0)
def forU (d a : Int) : Un := firstU (fun u => u.dim == d && suits u a)
theorem first_mem (p : Un → Bool) : firstU p = Un.nil ∨ firstU p ∈ cU ∧ p (firstU p) = true := by
  unfold firstU
  cases h : cU.find? p with
  | none => exact .inl rfl
  | some u => exact .inr ⟨List.mem_of_find?_eq_some h, List.find?_some h⟩
theorem un_size {u : Un} (h : u ∈ cU) : 1 ≤ u.size ∧ u.size ≤ 1000000 ∧ 1 ≤ u.dim ∧ u.dim ≤ 4 ∧ u.size.toNat ∣ 1000000 ∧ (u.size.toNat : Int) = u.size := by
  simp only [cU, List.mem_cons, List.not_mem_nil, or_false] at h
  rcases h with rfl | rfl | rfl | rfl | rfl | rfl | rfl | rfl | rfl | rfl <;> decide
theorem un_name {u : Un} (h : u ∈ cU) : (u.name.head? ≠ some 120) ∧ u.name ≠ [] ∧ (∀ c ∈ u.name, c ≠ 32) ∧ u.name.length ≤ 2 := by
  simp only [cU, List.mem_cons, List.not_mem_nil, or_false] at h
  rcases h with rfl | rfl | rfl | rfl | rfl | rfl | rfl | rfl | rfl | rfl <;> decide
theorem named_self {u : Un} (h : u ∈ cU) : namedU u.name = u := by
  simp only [cU, List.mem_cons, List.not_mem_nil, or_false] at h
  rcases h with rfl | rfl | rfl | rfl | rfl | rfl | rfl | rfl | rfl | rfl <;> rfl
theorem named_nil : namedU [] = Un.nil := rfl
theorem for_mem {d a : Int} (h1 : 1 ≤ d) (h2 : d ≤ 4) (h3 : 1 ≤ a) : forU d a ∈ cU ∧ (forU d a).dim = d ∧ (forU d a).size ≤ a := by
  have key : ∃ u ∈ cU, (u.dim == d && suits u a) = true := by
    have : d = 1 ∨ d = 2 ∨ d = 3 ∨ d = 4 := by omega
    have ha : decide ((1 : Int) ≤ a) = true := decide_eq_true h3
    rcases this with rfl | rfl | rfl | rfl
    · exact ⟨⟨[109, 103], 1, 1, false⟩, by simp [cU], by simp [suits, ha]⟩
    · exact ⟨⟨[109, 108], 2, 1, false⟩, by simp [cU], by simp [suits, ha]⟩
    · exact ⟨⟨[109, 109], 3, 1, false⟩, by simp [cU], by simp [suits, ha]⟩
    · exact ⟨⟨[112, 99], 4, 1, false⟩, by simp [cU], by simp [suits, ha]⟩
  obtain ⟨u, hu, hp⟩ := key
  unfold forU firstU
  cases h : cU.find? (fun u => u.dim == d && suits u a) with
  | none => exact absurd hp (List.find?_eq_none.1 h u hu)
  | some v =>
    have hv := List.find?_some h
    simp only [Bool.and_eq_true, beq_iff_eq, suits, decide_eq_true_eq] at hv
    exact ⟨List.mem_of_find?_eq_some h, hv.1, hv.2.1⟩

/- texts -/
theorem dec_ten {V : Nat} (hV : 0 < V) : decDigits (V * 10) = decDigits V ++ [48] := by
  have hg : Good (decDigits V ++ [48]) := by
    have h := good_dec V
    refine ⟨fun c hc => ?_, by simp, .inr ?_⟩
    · rcases List.mem_append.1 hc with k | k
      · exact h.1 c k
      · rw [List.mem_singleton] at k; subst k; exact ⟨by decide, by decide⟩
    · rcases head_dec V with ⟨z, _⟩ | ⟨_, c, l, e, hc⟩
      · omega
      · rw [e]; simpa using hc
  have h := dec_dv hg
  rwa [dv_snoc, dv_dec, show (48 : UInt8).toNat - 48 = 0 from rfl, Nat.add_zero] at h
theorem dec_lpos (V : Nat) : 0 < (decDigits V).length := List.length_pos_iff.2 (good_dec V).2.1
theorem fbody_more {d : Nat} {D : List UInt8} (hd : 0 < d) : fbody (d + 1) (D ++ [48]) = fbody d D ++ [48] := by
  have hp : fpad (d + 1) (D ++ [48]) = fpad d D ++ [48] := by
    unfold fpad
    rw [List.length_append, List.length_singleton, show d + 1 + 1 - (D.length + 1) = d + 1 - D.length by omega, List.append_assoc]
  have hl : d + 1 ≤ (fpad d D).length := by rw [fpad_length]; omega
  have ht : fpt (d + 1) (D ++ [48]) = fpt d D := by
    unfold fpt
    rw [hp, List.length_append, List.length_singleton]; omega
  have htl : fpt d D ≤ (fpad d D).length := by unfold fpt; omega
  unfold fbody
  rw [if_pos hd, if_pos (by omega), ht, hp, List.take_append_of_le_length htl, List.drop_append_of_le_length htl, List.append_assoc, List.cons_append]
theorem fbody_first {D : List UInt8} (hD : 0 < D.length) : fbody 1 (D ++ [48]) = D ++ [46, 48] := by
  have hp : fpad 1 (D ++ [48]) = D ++ [48] := by
    unfold fpad
    rw [List.length_append, List.length_singleton, show 1 + 1 - (D.length + 1) = 0 by omega]; rfl
  have ht : fpt 1 (D ++ [48]) = D.length := by unfold fpt; rw [hp, List.length_append, List.length_singleton]; omega
  unfold fbody
  rw [if_pos (by omega), ht, hp, List.take_left' rfl, List.drop_left' rfl]
theorem fbody_zeros {d V : Nat} (hd : 0 < d) (hV : 0 < V) : ∀ k : Nat, fbody (d + k) (decDigits (V * 10 ^ k)) = fbody d (decDigits V) ++ List.replicate k 48
  | 0 => by simp
  | k + 1 => by
    rw [Nat.pow_succ, ← Nat.mul_assoc, dec_ten (Nat.mul_pos hV (Nat.pow_pos (by omega))), ← Nat.add_assoc, fbody_more (by omega), fbody_zeros hd hV k, List.append_assoc, ← List.replicate_succ']
theorem fbody_whole {V : Nat} (hV : 0 < V) (k : Nat) : fbody (k + 1) (decDigits (V * 10 ^ (k + 1))) = decDigits V ++ 46 :: List.replicate (k + 1) 48 := by
  have h1 : fbody 1 (decDigits (V * 10)) = decDigits V ++ [46, 48] := by rw [dec_ten hV, fbody_first (dec_lpos V)]
  have h2 := fbody_zeros (d := 1) (V := V * 10) (by omega) (by omega) k
  rw [Nat.pow_succ, Nat.mul_comm (10 ^ k) 10, ← Nat.mul_assoc, Nat.add_comm k 1, h2, h1, List.append_assoc, Nat.add_comm 1 k, List.replicate_succ]
  rfl
theorem trimR_zeros (l : List UInt8) (k : Nat) : trimRightB (l ++ List.replicate k 48) 48 = trimRightB l 48 := by
  induction k with
  | zero => simp
  | succ k ih =>
    rw [List.replicate_succ', ← List.append_assoc, ← ih]
    unfold trimRightB
    rw [List.reverse_append, List.reverse_singleton, List.singleton_append, List.dropWhile_cons, if_pos (by simp)]
theorem trimR_last {l : List UInt8} {c : UInt8} (hc : c ≠ 48) : trimRightB (l ++ [c]) 48 = l ++ [c] := by
  unfold trimRightB
  rw [List.reverse_append, List.reverse_singleton, List.singleton_append, List.dropWhile_cons, if_neg (by simpa using hc), ← List.singleton_append, List.reverse_append, List.reverse_reverse, List.reverse_singleton]
theorem trimS_point (l : List UInt8) : trimSuffix (l ++ [46]) [46] = l := by
  unfold trimSuffix hasSuffix
  rw [if_pos (by rw [List.isSuffixOf_iff_suffix]; exact List.suffix_append _ _)]
  simp
theorem trimS_last {l : List UInt8} {c : UInt8} (hc : c ≠ 46) : trimSuffix (l ++ [c]) [46] = l ++ [c] := by
  unfold trimSuffix hasSuffix
  rw [if_neg]
  intro h
  rw [List.isSuffixOf_iff_suffix] at h
  obtain ⟨t, ht⟩ := h
  have := congrArg List.getLast? ht
  simp at this
  exact hc this.symm
/-- a number's last digit -/
theorem dec_last {V : Nat} (h : V % 10 ≠ 0) : ∃ l c, decDigits V = l ++ [c] ∧ c ≠ 48 ∧ c ≠ 46 := by
  by_cases hV : V < 10
  · refine ⟨[], _, dec_small hV, fun e => ?_, fun e => ?_⟩
    all_goals
      have := congrArg UInt8.toNat e
      rw [toNat_digit V hV] at this
      revert this
      first
        | (have : (48 : UInt8).toNat = 48 := rfl; omega)
        | (have : (46 : UInt8).toNat = 46 := rfl; omega)
  · refine ⟨_, _, dec_big (by omega), fun e => ?_, fun e => ?_⟩
    all_goals
      have := congrArg UInt8.toNat e
      rw [toNat_digit _ (Nat.mod_lt _ (by omega))] at this
      revert this
      first
        | (have : (48 : UInt8).toNat = 48 := rfl; omega)
        | (have : (46 : UInt8).toNat = 46 := rfl; omega)
theorem fbody_last {d V : Nat} (hd : 0 < d) (h : V % 10 ≠ 0) : ∃ l c, fbody d (decDigits V) = l ++ [c] ∧ c ≠ 48 ∧ c ≠ 46 := by
  obtain ⟨l, c, e, h1, h2⟩ := dec_last h
  have hp : fpad d (decDigits V) = (List.replicate (d + 1 - (decDigits V).length) 48 ++ l) ++ [c] := by unfold fpad; rw [e, List.append_assoc]
  have hl := fpad_length d (decDigits V)
  have ht : fpt d (decDigits V) ≤ (List.replicate (d + 1 - (decDigits V).length) 48 ++ l).length := by
    have : (fpad d (decDigits V)).length = (List.replicate (d + 1 - (decDigits V).length) 48 ++ l).length + 1 := by rw [hp, List.length_append, List.length_singleton]
    unfold fpt; omega
  refine ⟨(fpad d (decDigits V)).take (fpt d (decDigits V)) ++ 46 :: (List.replicate (d + 1 - (decDigits V).length) 48 ++ l).drop (fpt d (decDigits V)), c, ?_, h1, h2⟩
  unfold fbody
  rw [if_pos hd]
  conv => lhs; rw [show (fpad d (decDigits V)).drop (fpt d (decDigits V)) = (List.replicate (d + 1 - (decDigits V).length) 48 ++ l).drop (fpt d (decDigits V)) ++ [c] by rw [hp, List.drop_append_of_le_length ht]]
  rw [List.append_assoc, List.cons_append]
/-- the least number of decimals -/
def leastD (a z : Nat) (d : Nat) : Prop := z ∣ a * 10 ^ d ∧ ∀ e, e < d → ¬ z ∣ a * 10 ^ e
/-- trimmed zeros: the text with the fewest decimals -/
theorem trim_least {a z d : Nat} (ha : 0 < a) (hz : 0 < z) (hd : d ≤ 12) (h : leastD a z d) : trimSuffix (trimRightB (fbody 12 (decDigits (a * 10 ^ 12 / z))) 48) [46] = fbody d (decDigits (a * 10 ^ d / z)) := by
  obtain ⟨V, hV⟩ := h.1
  have hV0 : 0 < V := by
    rcases Nat.eq_zero_or_pos V with e | e
    · rw [e, Nat.mul_zero] at hV
      have : 0 < a * 10 ^ d := Nat.mul_pos ha (Nat.pow_pos (by omega))
      omega
    · exact e
  have e1 : a * 10 ^ d / z = V := by rw [hV, Nat.mul_div_cancel_left _ hz]
  have e2 : a * 10 ^ 12 / z = V * 10 ^ (12 - d) := by
    have : a * 10 ^ 12 = z * (V * 10 ^ (12 - d)) := by
      rw [← Nat.mul_assoc, ← hV, Nat.mul_assoc, ← Nat.pow_add, show d + (12 - d) = 12 by omega]
    rw [this, Nat.mul_div_cancel_left _ hz]
  rw [e1, e2]
  by_cases h0 : d = 0
  · subst h0
    have h2 := fbody_whole hV0 11
    rw [show 12 - 0 = 11 + 1 from rfl, show (12 : Nat) = 11 + 1 from rfl, h2]
    have e3 : decDigits V ++ 46 :: List.replicate (11 + 1) 48 = (decDigits V ++ [46]) ++ List.replicate (11 + 1) 48 := by rw [List.append_assoc]; rfl
    rw [e3, trimR_zeros, trimR_last (by decide), trimS_point]
    rfl
  · have hd0 : 0 < d := by omega
    have hm : V % 10 ≠ 0 := by
      intro hm
      obtain ⟨V', rfl⟩ := Nat.dvd_of_mod_eq_zero hm
      refine h.2 (d - 1) (by omega) ⟨V', ?_⟩
      have e3 : a * 10 ^ d = a * 10 ^ (d - 1) * 10 := by rw [Nat.mul_assoc, show 10 ^ (d - 1) * 10 = 10 ^ d by rw [← Nat.pow_succ, show (d - 1).succ = d by omega]]
      rw [e3] at hV
      have : a * 10 ^ (d - 1) * 10 = z * V' * 10 := by rw [hV, Nat.mul_assoc, Nat.mul_comm 10 V']
      omega
    have h2 := fbody_zeros hd0 hV0 (12 - d)
    rw [show d + (12 - d) = 12 by omega] at h2
    obtain ⟨l, c, e3, h3, h4⟩ := fbody_last hd0 hm
    rw [h2, trimR_zeros, e3, trimR_last h3, trimS_last h4]
theorem least_exists {a z : Nat} (hz : z ∣ 1000000) : ∃ d, d ≤ 6 ∧ leastD a z d := by
  have h6 : z ∣ a * 10 ^ 6 := Nat.dvd_trans hz (Nat.dvd_mul_left _ _)
  have key : ∀ n : Nat, (∀ e, e < n → ¬ z ∣ a * 10 ^ e) ∨ ∃ d, d ≤ n ∧ leastD a z d := by
    intro n
    induction n with
    | zero => exact .inl (fun e he => by omega)
    | succ n ih =>
      rcases ih with h | ⟨d, hd, h⟩
      · by_cases hn : z ∣ a * 10 ^ n
        · exact .inr ⟨n, by omega, hn, h⟩
        · left
          intro e he
          rcases Nat.lt_or_ge e n with k | k
          · exact h e k
          · obtain rfl : e = n := by omega
            exact hn
      · exact .inr ⟨d, by omega, h⟩
  rcases key 6 with h | ⟨d, hd, h⟩
  · exact ⟨6, by omega, h6, h⟩
  · exact ⟨d, hd, h⟩
theorem ru_exact {a z T : Nat} (hz : 0 < z) (h : z ∣ a * T) : ru a z T = a * T / z := by
  obtain ⟨V, hV⟩ := h
  unfold ru
  rw [hV, Nat.mul_div_cancel_left _ hz]
  have e : z * V * 2 + z = V * (z * 2) + z := by grind
  rw [e, Nat.mul_comm V, Nat.mul_add_div (by omega), Nat.div_eq_of_lt (by omega), Nat.add_zero]
end Go.Proofs.YtobiepkhommeaaaGreatDoor
/- Quantities: what a text says, and that a printed quantity reads back. No program here. -/
namespace Go.Proofs.YtobiepkhommeaaaGreatDoor
open Go.Lib

theorem isPre_cons (c : UInt8) (s l : List UInt8) : (c :: s).isPrefixOf l = true ↔ ∃ t, l = c :: t ∧ s.isPrefixOf t = true := by
  cases l with
  | nil => simp [List.isPrefixOf]
  | cons b t =>
    rw [List.isPrefixOf, Bool.and_eq_true, beq_iff_eq]
    constructor
    · rintro ⟨rfl, h⟩; exact ⟨t, rfl, h⟩
    · rintro ⟨t', e, h⟩
      obtain ⟨rfl, rfl⟩ := List.cons.inj e
      exact ⟨rfl, h⟩
/-- the first place of a separator whose first byte does not stand before it -/
theorem cut_hit {c : UInt8} {h s r : List UInt8} (hh : ∀ x ∈ h, x ≠ c) : cut (h ++ (c :: s) ++ r) (c :: s) = (h, r, true) := by
  have hi : index (h ++ (c :: s) ++ r) (c :: s) = (h.length : Int) := by
    refine index_first (by simp) ?_ (fun j hj => ?_)
    · unfold occAt
      rw [List.append_assoc, List.drop_left' rfl, List.isPrefixOf_iff_prefix]
      exact List.prefix_append _ _
    · rw [Bool.eq_false_iff]
      intro ho
      unfold occAt at ho
      obtain ⟨t, ht, _⟩ := (isPre_cons _ _ _).1 ho
      have h1 : ((h ++ (c :: s) ++ r).drop j).head? = some c := by rw [ht]; rfl
      rw [List.head?_drop, List.append_assoc, List.getElem?_append_left hj, List.getElem?_eq_getElem hj] at h1
      exact hh _ (List.getElem_mem hj) (Option.some.inj h1)
  unfold cut
  rw [hi, if_pos (by omega), Int.toNat_natCast]
  refine Prod.ext ?_ (Prod.ext ?_ rfl)
  · show (h ++ (c :: s) ++ r).take h.length = h
    rw [List.append_assoc, List.take_left' rfl]
  · show (h ++ (c :: s) ++ r).drop (h.length + (c :: s).length) = r
    rw [List.drop_left' (by rw [List.length_append])]
theorem cut_none {l s : List UInt8} (h : ∀ j : Nat, j ≤ l.length → occAt l s j = false) : cut l s = (l, [], false) := by
  rcases index_spec l s with ⟨h1, _⟩ | ⟨i, _, h2, h3, _⟩
  · unfold cut; rw [h1, if_neg (by omega)]
  · rw [h i h2] at h3; cases h3
def sepX : List UInt8 := [32, 120, 32]
/-- a number, a blank and a name: no number of packages -/
theorem cut_plain {h n : List UInt8} (hh : ∀ x ∈ h, x ≠ 32) (hn : ∀ x ∈ n, x ≠ 32) (hx : n.head? ≠ some 120) : cut (h ++ 32 :: n) sepX = (h ++ 32 :: n, [], false) := by
  refine cut_none (fun j _ => ?_)
  rw [Bool.eq_false_iff]
  intro ho
  unfold occAt sepX at ho
  obtain ⟨t, ht, ho2⟩ := (isPre_cons _ _ _).1 ho
  obtain ⟨t2, ht2, _⟩ := (isPre_cons _ _ _).1 ho2
  have h1 : (h ++ 32 :: n)[j]? = some 32 := by rw [← List.head?_drop, ht]; rfl
  have h2 : (h ++ 32 :: n)[j + 1]? = some 120 := by
    have e : (h ++ 32 :: n).drop (j + 1) = t := by rw [← List.tail_drop, ht]; rfl
    rw [← List.head?_drop, e, ht2]; rfl
  rcases Nat.lt_trichotomy j h.length with hj | hj | hj
  · rw [List.getElem?_append_left hj, List.getElem?_eq_getElem hj] at h1
    exact hh _ (List.getElem_mem hj) (Option.some.inj h1)
  · subst hj
    rw [List.getElem?_append_right (by omega), show h.length + 1 - h.length = 0 + 1 by omega, List.getElem?_cons_succ, ← List.head?_eq_getElem?] at h2
    exact hx h2
  · rw [List.getElem?_append_right (by omega)] at h1
    obtain ⟨k, hk⟩ : ∃ k, j - h.length = k + 1 := ⟨j - h.length - 1, by omega⟩
    rw [hk, List.getElem?_cons_succ] at h1
    exact hn _ (List.mem_of_getElem? h1) rfl

/-- a number of packages, or 0 -/
noncomputable def pk (l : List UInt8) : Nat := if txtRes l < 2 ∨ 100 < txtRes l then 0 else txtRes l
/-- the base units that a number stands for, or 0 -/
def amtN (y : Rat) : Nat := if rs y = false ∧ y.den = 1 ∧ rn y ≤ 1099511627776 then rn y else 0
noncomputable def amt (l : List UInt8) (z : Nat) : Nat := amtN (pqv l * rq false z 1)
noncomputable def pC (l : List UInt8) : Nat := if (cut l sepX).2.2 = true then pk (cut l sepX).1 else 1
def pL (l : List UInt8) : List UInt8 := if (cut l sepX).2.2 = true then (cut l sepX).2.1 else l
def pU (l : List UInt8) : Un := namedU (cut (pL l) [32]).2.1
noncomputable def pA (l : List UInt8) : Nat := amt (cut (pL l) [32]).1 (pU l).size.toNat
noncomputable def pE (l : List UInt8) : Int := qwhy (pU l).dim (pC l : Int) (pA l : Int)
noncomputable def rE (l : List UInt8) : Int := if pE l = 0 then 0 else 83
noncomputable def rD (l : List UInt8) : Int := if pE l = 0 then (pU l).dim else 0
noncomputable def rC (l : List UInt8) : Int := if pE l = 0 then (pC l : Int) else 0
noncomputable def rA (l : List UInt8) : Int := if pE l = 0 then (pA l : Int) else 0
theorem r_ok {l : List UInt8} (h : pE l = 0) : rE l = 0 ∧ rD l = (pU l).dim ∧ rC l = pC l ∧ rA l = pA l := ⟨if_pos h, if_pos h, if_pos h, if_pos h⟩
theorem r_bad {l : List UInt8} (h : pE l ≠ 0) : rE l = 83 ∧ rD l = 0 ∧ rC l = 0 ∧ rA l = 0 := ⟨if_neg h, if_neg h, if_neg h, if_neg h⟩
theorem amtN_le (y : Rat) : amtN y ≤ 1099511627776 := by unfold amtN; split <;> omega
theorem pk_le (l : List UInt8) : pk l ≤ 100 := by unfold pk; split <;> omega
theorem pC_le (l : List UInt8) : pC l ≤ 100 := by unfold pC; split <;> first | exact pk_le _ | omega
theorem pU_mem (l : List UInt8) : pU l = Un.nil ∨ pU l ∈ cU := (first_mem _).imp id (fun h => h.1)

/-- a whole number, or a decimal one, of a unit -/
theorem amt_of {V k z a : Nat} (hz : V * z = a * 10 ^ k) (hk : k ≤ 12) (hV : V < 10 ^ 30) (ha : a ≤ 1099511627776) : amt (fbody k (decDigits V)) z = a := by
  have hl : (decDigits V).length ≤ 30 + k := by
    by_cases h0 : V = 0
    · subst h0; rw [dec_small (by omega)]; simp; omega
    · have := dec_len_le 29 _ hV
      omega
  have hr := (ftext_reads false V k hk hl).2
  have ht : ftext false V k = fbody k (decDigits V) := if_neg (by simp)
  rw [ht] at hr
  unfold amt
  rw [hr]
  have hT : 0 < 10 ^ k := Nat.pow_pos (by omega)
  have e : rq false V (10 ^ k) * rq false z 1 = rq false a 1 := by
    rw [← rq_mul, hz, Nat.mul_comm (10 ^ k) 1]
    unfold rq
    show mkRat (sg false (a * 10 ^ k)) (1 * 10 ^ k) = mkRat (sg false a) 1
    rw [sg_mulr]
    exact Rat.mkRat_mul_right (by omega)
  rw [e]
  have h1 : rn (rq false a 1) = a := by rw [rn_rq (by omega), Nat.gcd_one_right, Nat.div_one]
  have h2 : (rq false a 1).den = 1 := by rw [rd_rq (by omega), Nat.gcd_one_right]
  have h3 : rs (rq false a 1) = false := by rw [rs_rq (by omega)]; rfl
  unfold amtN
  rw [h1, h2, h3, if_pos ⟨rfl, rfl, ha⟩]
theorem fbody_blank (k V : Nat) : ∀ x ∈ fbody k (decDigits V), x ≠ 32 := by
  have hd : ∀ l : List UInt8, Digs l → ∀ x ∈ l, x ≠ 32 := fun l hl x hx e => by
    have := (hl x hx).1
    rw [e] at this
    revert this
    decide
  have hg := good_dec V
  unfold fbody
  split
  · intro x hx
    have hp := digs_pad k hg.1
    rcases List.mem_append.1 hx with h | h
    · exact hd _ (hp.take _) x h
    · rcases List.mem_cons.1 h with rfl | h
      · decide
      · exact hd _ (hp.drop _) x h
  · exact hd _ hg.1
/-- the text of a quantity from its number's -/
def qtext (c : Nat) (num name : List UInt8) : List UInt8 := if 1 < c then decDigits c ++ sepX ++ (num ++ 32 :: name) else num ++ 32 :: name
theorem qtext_reads {c a k V : Nat} {u : Un} {l : List UInt8} (hl : l = qtext c (fbody k (decDigits V)) u.name) (hu : u ∈ cU) (hc1 : 1 ≤ c) (hc2 : c ≤ 100) (hz : V * u.size.toNat = a * 10 ^ k) (hk : k ≤ 12) (hV : V < 10 ^ 30) (ha : a ≤ 1099511627776) : pU l = u ∧ pC l = c ∧ pA l = a := by
  obtain ⟨n1, n2, n3, _⟩ := un_name hu
  have hb := fbody_blank k V
  have hcut : pL l = fbody k (decDigits V) ++ 32 :: u.name ∧ pC l = c := by
    rw [hl]
    unfold pL pC qtext
    by_cases h1 : 1 < c
    · rw [if_pos h1]
      have hh : ∀ x ∈ decDigits c, x ≠ 32 := fun x hx e => by
        have := (digs_dec c x hx).1
        rw [e] at this
        revert this
        decide
      have e := cut_hit (c := 32) (h := decDigits c) (s := [120, 32]) (r := fbody k (decDigits V) ++ 32 :: u.name) hh
      have e2 : cut (decDigits c ++ sepX ++ (fbody k (decDigits V) ++ 32 :: u.name)) sepX = (decDigits c, fbody k (decDigits V) ++ 32 :: u.name, true) := e
      rw [e2]
      refine ⟨if_pos rfl, (if_pos rfl).trans ?_⟩
      have hlen : (decDigits c).length ≤ 4096 := by
        have := dec_len_le 2 c (by omega)
        omega
      have hr := (txt_fine (good_dec c) hlen).2
      unfold pk
      show (if txtRes (decDigits c) < 2 ∨ 100 < txtRes (decDigits c) then 0 else txtRes (decDigits c)) = c
      rw [hr, dv_dec, if_neg (by omega)]
    · rw [if_neg h1, cut_plain hb n3 n1]
      refine ⟨if_neg (by simp), (if_neg (by simp)).trans (by omega)⟩
  obtain ⟨e1, e2⟩ := hcut
  have e3 : cut (pL l) [32] = (fbody k (decDigits V), u.name, true) := by
    rw [e1]
    have := cut_hit (c := 32) (h := fbody k (decDigits V)) (s := []) (r := u.name) hb
    rw [List.append_assoc] at this
    exact this
  have e4 : pU l = u := by unfold pU; rw [e3]; exact named_self hu
  refine ⟨e4, e2, ?_⟩
  unfold pA
  rw [e4, e3]
  exact amt_of hz hk hV ha
/-- the text of an amount -/
def numText (a z : Nat) : List UInt8 := trimSuffix (trimRightB (fbody 12 (decDigits (a * 10 ^ 12 / z))) 48) [46]
def fmtQ (d c a : Int) : List UInt8 := qtext c.toNat (numText a.toNat (forU d a).size.toNat) (forU d a).name
theorem fmt_reads {d c a : Int} (h : qwhy d c a = 0) : rE (fmtQ d c a) = 0 ∧ rD (fmtQ d c a) = d ∧ rC (fmtQ d c a) = c ∧ rA (fmtQ d c a) = a := by
  obtain ⟨h1, h2, h3, h4, h5, h6⟩ := qwhy_zero.1 h
  obtain ⟨m1, m2, m3⟩ := for_mem h1 h2 h5
  obtain ⟨z1, z2, _, _, z5, z6⟩ := un_size m1
  have ha := qa_le h3 h5 h6
  obtain ⟨k, hk, hl⟩ := least_exists (a := a.toNat) z5
  have hz0 : 0 < (forU d a).size.toNat := by omega
  have hn : numText a.toNat (forU d a).size.toNat = fbody k (decDigits (a.toNat * 10 ^ k / (forU d a).size.toNat)) := trim_least (by omega) hz0 (by omega) hl
  have hV : a.toNat * 10 ^ k / (forU d a).size.toNat < 10 ^ 30 := by
    have hp : 10 ^ k ≤ 10 ^ 6 := Nat.pow_le_pow_right (by omega) hk
    have h7 : a.toNat * 10 ^ k ≤ 1099511627776 * 10 ^ 6 := Nat.mul_le_mul (by omega) hp
    have := Nat.div_le_self (a.toNat * 10 ^ k) (forU d a).size.toNat
    omega
  obtain ⟨e1, e2, e3⟩ := qtext_reads (c := c.toNat) (a := a.toNat) (k := k) (V := a.toNat * 10 ^ k / (forU d a).size.toNat) (u := forU d a) (l := fmtQ d c a) (by unfold fmtQ; rw [hn]) m1 (by omega) (by omega) (Nat.div_mul_cancel hl.1) (by omega) hV (by omega)
  have he : pE (fmtQ d c a) = 0 := by
    unfold pE
    rw [e1, e2, e3, m2, show ((c.toNat : Nat) : Int) = c by omega, show ((a.toNat : Nat) : Int) = a by omega]
    exact h
  obtain ⟨f1, f2, f3, f4⟩ := r_ok he
  refine ⟨f1, by rw [f2, e1, m2], by rw [f3, e2]; omega, by rw [f4, e3]; omega⟩
end Go.Proofs.YtobiepkhommeaaaGreatDoor
/- Quantities: what the reference's loops find, and when it refuses a text. No program here. -/
namespace Go.Proofs.YtobiepkhommeaaaGreatDoor
open Go.Lib

/-- one round of the reference's choice of a unit -/
def chStep (d a : Int) (o u : Un) : Un := if u.dim = d then (if o.size = 0 ∨ u.size ≤ a ∧ (u.flag = false ∨ a % u.size = 0) then u else o) else o
def chF (d a : Int) (k : Nat) : Un := (rU.take k).foldl (chStep d a) Un.nil
theorem take_snocU {l : List Un} {k : Nat} (h : k < l.length) : l.take (k + 1) = l.take k ++ [l.getD k Un.nil] := by
  rw [List.take_succ_eq_append_getElem h]
  simp [List.getD, h]
theorem chF_succ {d a : Int} {k : Nat} (h : k < 10) : chF d a (k + 1) = chStep d a (chF d a k) (rU.getD k Un.nil) := by
  unfold chF
  rw [take_snocU (show k < rU.length from h), List.foldl_append]
  rfl
theorem chF_zero (d a : Int) : chF d a 0 = Un.nil := rfl
theorem chF_all {d a : Int} (h1 : 1 ≤ d) (h2 : d ≤ 4) (h3 : 1 ≤ a) : chF d a 10 = forU d a := by
  have : d = 1 ∨ d = 2 ∨ d = 3 ∨ d = 4 := by omega
  have e1 : decide ((1 : Int) ≤ a) = true := decide_eq_true h3
  have e1' : ((1 : Int) ≤ a) = True := by simp [h3]
  rcases this with rfl | rfl | rfl | rfl
  · by_cases h6 : 1000000 ≤ a
    · have h7 : 1000 ≤ a := by omega
      simp [chF, rU, chStep, forU, firstU, cU, suits, Un.nil, h6, h7]
    · by_cases h7 : 1000 ≤ a
      · simp [chF, rU, chStep, forU, firstU, cU, suits, Un.nil, h6, h7]
      · simp [chF, rU, chStep, forU, firstU, cU, suits, Un.nil, h6, h7, h3]
  · by_cases h7 : 1000 ≤ a
    · simp [chF, rU, chStep, forU, firstU, cU, suits, Un.nil, h7]
    · by_cases h8 : a % 10 = 0
      · have h9 : 10 ≤ a := by omega
        simp [chF, rU, chStep, forU, firstU, cU, suits, Un.nil, h7, h8, h9]
      · simp [chF, rU, chStep, forU, firstU, cU, suits, Un.nil, h7, h8, h3]
  · by_cases h7 : 1000 ≤ a
    · simp [chF, rU, chStep, forU, firstU, cU, suits, Un.nil, h7]
    · by_cases h8 : a % 10 = 0
      · have h9 : 10 ≤ a := by omega
        simp [chF, rU, chStep, forU, firstU, cU, suits, Un.nil, h7, h8, h9]
      · simp [chF, rU, chStep, forU, firstU, cU, suits, Un.nil, h7, h8, h3]
  · simp [chF, rU, chStep, forU, firstU, cU, suits, Un.nil, h3]

/-- the standard unit's base units, as the reference finds them -/
def stF (d : Int) (k : Nat) : Int := (rU.take k).foldl (fun b u => if u.dim = d then u.size else b) 0
theorem stF_succ {d : Int} {k : Nat} (h : k < 10) : stF d (k + 1) = if (rU.getD k Un.nil).dim = d then (rU.getD k Un.nil).size else stF d k := by
  unfold stF
  rw [take_snocU (show k < rU.length from h), List.foldl_append]
  rfl
theorem stF_all {d : Int} (h1 : 1 ≤ d) (h2 : d ≤ 4) : stF d 10 = (stdU d).size := by
  have : d = 1 ∨ d = 2 ∨ d = 3 ∨ d = 4 := by omega
  rcases this with rfl | rfl | rfl | rfl <;> rfl
theorem stF_range (d : Int) (k : Nat) : 0 ≤ stF d k ∧ stF d k ≤ 1000000 := by
  have key : ∀ (l : List Un) (b : Int), (∀ u ∈ l, 0 ≤ u.size ∧ u.size ≤ 1000000) → 0 ≤ b ∧ b ≤ 1000000 → 0 ≤ l.foldl (fun b u => if u.dim = d then u.size else b) b ∧ l.foldl (fun b u => if u.dim = d then u.size else b) b ≤ 1000000 := by
    intro l
    induction l with
    | nil => intro b _ h; exact h
    | cons u r ih =>
      intro b hl hb
      rw [List.foldl_cons]
      refine ih _ (fun x hx => hl x (List.mem_cons_of_mem _ hx)) ?_
      split
      · exact hl u (List.mem_cons_self ..)
      · exact hb
  refine key _ 0 (fun u hu => ?_) (by omega)
  have hu' := List.mem_of_mem_take hu
  simp only [rU, List.mem_cons, List.not_mem_nil, or_false] at hu'
  rcases hu' with rfl | rfl | rfl | rfl | rfl | rfl | rfl | rfl | rfl | rfl <;> decide
theorem rU_mem {i : Nat} (hi : i < 10) : rU.getD i Un.nil ∈ cU := by
  have : i = 0 ∨ i = 1 ∨ i = 2 ∨ i = 3 ∨ i = 4 ∨ i = 5 ∨ i = 6 ∨ i = 7 ∨ i = 8 ∨ i = 9 := by omega
  rcases this with rfl | rfl | rfl | rfl | rfl | rfl | rfl | rfl | rfl | rfl <;> simp [rU, cU]
theorem rU_all {u : Un} (hu : u ∈ cU) : ∃ i, i < 10 ∧ rU.getD i Un.nil = u := by
  simp only [cU, List.mem_cons, List.not_mem_nil, or_false] at hu
  rcases hu with rfl | rfl | rfl | rfl | rfl | rfl | rfl | rfl | rfl | rfl
  · exact ⟨2, by omega, rfl⟩
  · exact ⟨1, by omega, rfl⟩
  · exact ⟨0, by omega, rfl⟩
  · exact ⟨5, by omega, rfl⟩
  · exact ⟨4, by omega, rfl⟩
  · exact ⟨3, by omega, rfl⟩
  · exact ⟨8, by omega, rfl⟩
  · exact ⟨7, by omega, rfl⟩
  · exact ⟨6, by omega, rfl⟩
  · exact ⟨9, by omega, rfl⟩
/-- the unit's flag is told by its name -/
theorem flag_name {u : Un} (hu : u ∈ cU) : u.flag = (u.name == [99, 108] || u.name == [99, 109]) := by
  simp only [cU, List.mem_cons, List.not_mem_nil, or_false] at hu
  rcases hu with rfl | rfl | rfl | rfl | rfl | rfl | rfl | rfl | rfl | rfl <;> decide
theorem named_hit {i : Nat} (hi : i < 10) {l : List UInt8} (h : (rU.getD i Un.nil).name = l) : namedU l = rU.getD i Un.nil := by
  rw [← h]
  exact named_self (rU_mem hi)
theorem named_none {l : List UInt8} (h : ∀ j : Nat, j < 10 → (rU.getD j Un.nil).name ≠ l) : namedU l = Un.nil := by
  rcases first_mem (fun u => u.name == l) with e | ⟨hm, hp⟩
  · exact e
  · obtain ⟨i, hi, e⟩ := rU_all hm
    have h2 : (firstU (fun u => u.name == l)).name = l := by simpa using hp
    exact absurd (by rw [e]; exact h2) (h i hi)
theorem named_len {l : List UInt8} (h : namedU l ≠ Un.nil) : l.length ≤ 2 ∧ l ≠ [] := by
  rcases first_mem (fun u => u.name == l) with e | ⟨hm, hp⟩
  · exact absurd e h
  · have h2 : (firstU (fun u => u.name == l)).name = l := by simpa using hp
    have := un_name hm
    rw [h2] at this
    exact ⟨this.2.2.2, this.2.1⟩

/- when a text is refused -/
theorem bad_dim {l : List UInt8} (h : pU l = Un.nil) : pE l ≠ 0 := by
  intro k
  have := (qwhy_zero.1 k).1
  rw [h] at this
  simp [Un.nil] at this
theorem bad_count {l : List UInt8} (h : pC l = 0) : pE l ≠ 0 := by
  intro k
  have := (qwhy_zero.1 k).2.2.1
  omega
theorem bad_amount {l : List UInt8} (h : pA l = 0) : pE l ≠ 0 := by
  intro k
  have := (qwhy_zero.1 k).2.2.2.2.1
  omega
theorem pC_one {l : List UInt8} (h : (cut l sepX).2.2 = false) : pC l = 1 ∧ pL l = l := by
  unfold pC pL
  rw [h]
  exact ⟨if_neg (by simp), if_neg (by simp)⟩
theorem pC_many {l : List UInt8} (h : (cut l sepX).2.2 = true) : pC l = pk (cut l sepX).1 ∧ pL l = (cut l sepX).2.1 := by
  unfold pC pL
  rw [h]
  exact ⟨if_pos rfl, if_pos rfl⟩
theorem pk_bad {l : List UInt8} (h : txtRes l < 2 ∨ 100 < txtRes l) : pk l = 0 := if_pos h
theorem pk_ok {l : List UInt8} (h : ¬ (txtRes l < 2 ∨ 100 < txtRes l)) : pk l = txtRes l := if_neg h
theorem amt_zero (z : Nat) (l : List UInt8) (h : pqv l = 0) : amt l z = 0 := by
  unfold amt amtN
  rw [h, Rat.zero_mul]
  split
  · rfl
  · rfl
theorem pqv_form (l : List UInt8) : ∃ s V T, 0 < T ∧ pqv l = rq s V T := by
  by_cases h : pOk (pneg l) (pbody l)
  · exact ⟨_, _, _, Nat.pow_pos (by omega), pqv_ok h⟩
  · exact ⟨false, 0, 1, by omega, (pqv_bad h).trans ((rq_zero_iff (by omega)).2 rfl).symm⟩
theorem amt_neg {z : Nat} {l : List UInt8} (h : sgn (pqv l) ≤ 0) : amt l z = 0 := by
  obtain ⟨s, V, T, hT, e⟩ := pqv_form l
  rw [e, sgn_rq hT] at h
  unfold amt
  rw [e, ← rq_mul]
  have hT1 : 0 < T * 1 := by omega
  have h1 := rs_rq (s := (s != false)) (N := V * z) hT1
  have h2 := rn_rq (s := (s != false)) (N := V * z) hT1
  by_cases h0 : V * z = 0
  · rw [h0, Nat.zero_div] at h2
    unfold amtN
    rw [h0] at *
    rw [h2]
    split <;> rfl
  · have hV : V ≠ 0 := fun k => h0 (by rw [k, Nat.zero_mul])
    rw [if_neg hV] at h
    have hs : s = true := by
      cases s
      · simp at h
      · rfl
    have hg : 0 < V * z / Nat.gcd (V * z) (T * 1) := Nat.div_pos (Nat.le_of_dvd (by omega) (Nat.gcd_dvd_left _ _)) (Nat.gcd_pos_of_pos_right _ hT1)
    rw [hs, decide_eq_true hg] at h1
    unfold amtN
    rw [hs, h1, if_neg (by simp)]
theorem amt_pos {z : Nat} {l : List UInt8} (h : 0 < sgn (pqv l)) : rs (pqv l * rq false z 1) = false := by
  obtain ⟨s, V, T, hT, e⟩ := pqv_form l
  rw [e, sgn_rq hT] at h
  rw [e, ← rq_mul, rs_rq (by omega)]
  cases s
  · rfl
  · split at h <;> simp at h
end Go.Proofs.YtobiepkhommeaaaGreatDoor
