/- Plain facts on decimal texts. No program here. -/
import Derived.Test.YtaggodjplgmmhaaDoorDigits
namespace Go.Proofs.YtaggodjplgmmhaaDoor

/-- the value of digits behind a number -/
def dstep (a : Nat) (c : UInt8) : Nat := a * 10 + (c.toNat - 48)
def dv (a : Nat) (l : List UInt8) : Nat := l.foldl dstep a
theorem dv_nil (a : Nat) : dv a [] = a := rfl
theorem dv_cons (a : Nat) (c : UInt8) (l : List UInt8) : dv a (c :: l) = dv (a * 10 + (c.toNat - 48)) l := List.foldl_cons ..
theorem dv_append (a : Nat) (l m : List UInt8) : dv a (l ++ m) = dv (dv a l) m := by
  induction l generalizing a with
  | nil => rw [List.nil_append, dv_nil]
  | cons c l ih => rw [List.cons_append, dv_cons, dv_cons, ih]
theorem dv_snoc (a : Nat) (l : List UInt8) (c : UInt8) : dv a (l ++ [c]) = dv a l * 10 + (c.toNat - 48) := by rw [dv_append, dv_cons, dv_nil]
theorem dv_shift (a : Nat) (l : List UInt8) : dv a l = a * 10 ^ l.length + dv 0 l := by
  induction l generalizing a with
  | nil => simp [dv_nil]
  | cons c l ih =>
    rw [dv_cons, dv_cons, ih, ih (0 * 10 + (c.toNat - 48)), List.length_cons, Nat.pow_succ]; grind
/-- a digit -/
def isd (c : UInt8) : Prop := 48 ≤ c.toNat ∧ c.toNat ≤ 57
def Digs (l : List UInt8) : Prop := ∀ c ∈ l, isd c
theorem Digs.take {l : List UInt8} (h : Digs l) (k : Nat) : Digs (l.take k) := fun c hc => h c (List.mem_of_mem_take hc)
theorem Digs.drop {l : List UInt8} (h : Digs l) (k : Nat) : Digs (l.drop k) := fun c hc => h c (List.mem_of_mem_drop hc)
theorem Digs.get {l : List UInt8} (h : Digs l) (k : Nat) (hk : k < l.length) : 48 ≤ l[k].toNat ∧ l[k].toNat ≤ 57 := h _ (List.getElem_mem hk)
theorem dv_lt {l : List UInt8} (h : Digs l) : dv 0 l < 10 ^ l.length := by
  have aux : ∀ (m : List UInt8) (a : Nat), Digs m → dv a m < (a + 1) * 10 ^ m.length := by
    intro m
    induction m with
    | nil => intro a _; simp [dv_nil]
    | cons c m ih =>
      intro a hm
      have h1 := ih (a * 10 + (c.toNat - 48)) (fun x hx => hm x (by simp [hx]))
      have h2 := hm c (by simp)
      have h3 : c.toNat - 48 ≤ 9 := by have := h2.2; omega
      have h4 : (a * 10 + (c.toNat - 48) + 1) * 10 ^ m.length ≤ (a + 1) * 10 * 10 ^ m.length := Nat.mul_le_mul_right _ (by omega)
      rw [dv_cons, List.length_cons, Nat.pow_succ]
      have e : (a + 1) * (10 ^ m.length * 10) = (a + 1) * 10 * 10 ^ m.length := by grind
      rw [e]; omega
  have := aux l 0 h
  simpa using this
/-- the decimal numbers: all digits, no 0 ahead -/
def Good (l : List UInt8) : Prop := Digs l ∧ l ≠ [] ∧ (l = [48] ∨ l.head? ≠ some 48)
open Classical in
noncomputable def txtWhy (l : List UInt8) : Int := if Good l then (if 4096 < l.length then 14 else 0) else 13
open Classical in
noncomputable def txtRes (l : List UInt8) : Nat := if Good l ∧ l.length ≤ 4096 then dv 0 l else 0
theorem txt_bad {l : List UInt8} (h : ¬ Good l) : txtWhy l = 13 ∧ txtRes l = 0 := ⟨if_neg h, if_neg (fun k => h k.1)⟩
theorem txt_long {l : List UInt8} (h : Good l) (hl : 4096 < l.length) : txtWhy l = 14 ∧ txtRes l = 0 := ⟨(if_pos h).trans (if_pos hl), if_neg (fun k => by omega)⟩
theorem txt_fine {l : List UInt8} (h : Good l) (hl : l.length ≤ 4096) : txtWhy l = 0 ∧ txtRes l = dv 0 l := ⟨(if_pos h).trans (if_neg (by omega)), if_pos ⟨h, hl⟩⟩

/-- the digits of a number are a decimal number, and its value is the number -/
theorem toNat_digit (k : Nat) (h : k < 10) : (UInt8.ofNat (48 + k)).toNat = 48 + k := by
  rw [UInt8.toNat_ofNat']; omega
theorem dv_dec (n : Nat) : dv 0 (Lib.decDigits n) = n := by
  induction n using Nat.strongRecOn with
  | _ n ih =>
    by_cases h : n < 10
    · rw [dec_small h, dv_cons, dv_nil, toNat_digit n h]; omega
    · rw [dec_big (by omega), dv_snoc, ih (n / 10) (by omega), toNat_digit _ (Nat.mod_lt _ (by omega))]; omega
theorem digs_dec (n : Nat) : Digs (Lib.decDigits n) := by
  induction n using Nat.strongRecOn with
  | _ n ih =>
    by_cases h : n < 10
    · rw [dec_small h]; intro c hc
      rw [List.mem_singleton] at hc; subst hc
      unfold isd; rw [toNat_digit n h]; omega
    · rw [dec_big (by omega)]; intro c hc
      rcases List.mem_append.1 hc with k | k
      · exact ih (n / 10) (by omega) c k
      · rw [List.mem_singleton] at k; subst k
        unfold isd; rw [toNat_digit _ (Nat.mod_lt _ (by omega))]; omega
theorem head_dec (n : Nat) : n = 0 ∧ Lib.decDigits n = [48] ∨ 0 < n ∧ ∃ c l, Lib.decDigits n = c :: l ∧ c ≠ 48 := by
  induction n using Nat.strongRecOn with
  | _ n ih =>
    by_cases h : n < 10
    · rcases Nat.eq_zero_or_pos n with z | z
      · subst z; left; exact ⟨rfl, by rw [dec_small (by omega)]; rfl⟩
      · right; refine ⟨z, _, _, dec_small h, fun e => ?_⟩
        have := congrArg UInt8.toNat e
        rw [toNat_digit n h] at this
        have : (48 : UInt8).toNat = 48 := rfl
        omega
    · right; refine ⟨by omega, ?_⟩
      rcases ih (n / 10) (by omega) with ⟨z, _⟩ | ⟨_, c, l, e, hc⟩
      · omega
      · exact ⟨c, l ++ [UInt8.ofNat (48 + n % 10)], by rw [dec_big (by omega), e]; rfl, hc⟩
theorem good_dec (n : Nat) : Good (Lib.decDigits n) := by
  refine ⟨digs_dec n, ?_, ?_⟩
  · have := dec_pos n; intro e; rw [e] at this; simp at this
  · rcases head_dec n with ⟨_, h⟩ | ⟨_, c, l, e, hc⟩
    · exact .inl h
    · right; rw [e]; simpa using hc
/-- a decimal number's text is that of its value -/
theorem dec_dv {l : List UInt8} (h : Good l) : Lib.decDigits (dv 0 l) = l := by
  have aux : ∀ (k : Nat) (m : List UInt8), m.length = k → Digs m → m ≠ [] → (m = [48] ∨ m.head? ≠ some 48) → Lib.decDigits (dv 0 m) = m := by
    intro k
    induction k with
    | zero => intro m h1 _ h3 _; exact absurd (List.eq_nil_of_length_eq_zero h1) h3
    | succ k ih =>
      intro m h1 h2 h3 h4
      obtain ⟨p, c, hpc⟩ : ∃ p c, m = p ++ [c] := ⟨m.dropLast, m.getLast h3, (List.dropLast_concat_getLast h3).symm⟩
      subst hpc
      have hc := h2 c (by simp)
      have hcd : c.toNat - 48 < 10 := by have := hc.2; omega
      have hcc : UInt8.ofNat (48 + (c.toNat - 48)) = c := by
        apply UInt8.toNat.inj
        rw [toNat_digit _ hcd]; have := hc.1; omega
      rw [dv_snoc]
      by_cases hp : p = []
      · subst hp
        rw [dv_nil, Nat.zero_mul, Nat.zero_add, dec_small hcd, hcc]; rfl
      · have h5 : p = [48] ∨ p.head? ≠ some 48 := by
          right
          rcases h4 with h4 | h4
          · have := congrArg List.length h4
            cases p with
            | nil => exact absurd rfl hp
            | cons x y => simp at this
          · cases p with
            | nil => exact absurd rfl hp
            | cons x y => simpa using h4
        have h6 := ih p (by simp at h1; omega) (fun x hx => h2 x (by simp [hx])) hp h5
        have hpos : 0 < dv 0 p := by
          rcases Nat.eq_zero_or_pos (dv 0 p) with z | z
          · rw [z, dec_small (by omega)] at h6
            have h7 : p = [48] := h6.symm
            subst h7
            rcases h4 with h4 | h4
            · have := congrArg List.length h4; simp at this
            · simp at h4
          · exact z
        rw [dec_big (by omega), show (dv 0 p * 10 + (c.toNat - 48)) / 10 = dv 0 p by omega, show (dv 0 p * 10 + (c.toNat - 48)) % 10 = c.toNat - 48 by omega, h6, hcc]
  exact aux l.length l rfl h.1 h.2.1 h.2.2
end Go.Proofs.YtaggodjplgmmhaaDoor
