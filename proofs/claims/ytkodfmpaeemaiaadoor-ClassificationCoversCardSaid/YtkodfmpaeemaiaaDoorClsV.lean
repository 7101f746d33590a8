import Derived.Test.YtkodfmpaeemaiaaDoorClsS
import Derived.Lib.SlicesS
/- A valid list of codes, in plain terms: the first error. -/
namespace Go.Proofs.YtkodfmpaeemaiaaDoor.C6
open Go.RowKit

/-- the first error of a text that follows others -/
noncomputable def vs (bs : List ByteArray) (s : ByteArray) : Int :=
  match P s with
  | none => 60
  | some _ => if 0 < bs.length ∧ 0 ≤ cmpS (bs.getD (bs.length - 1) emp) s then 62 else if (par s).1.toList.isEmpty = false ∧ Lib.containsS bs (par s).1 = false then 63 else 0
noncomputable def vst (l : List ByteArray) (i : Nat) : Int := vs (l.take i) (l.getD i emp)
noncomputable def vgo (l : List ByteArray) : Nat → Nat → Int
  | 0, _ => 0
  | k + 1, i => if vst l i = 0 then vgo l k (i + 1) else vst l i
/-- the first error of a list -/
noncomputable def val (l : List ByteArray) : Int := if l.length = 0 ∨ 200 < l.length then 61 else vgo l l.length 0
theorem vgo_skip (l : List ByteArray) : ∀ (j i k : Nat), (∀ m, m < j → vst l (i + m) = 0) → vgo l (j + k) i = vgo l k (i + j)
  | 0, i, k, _ => by rw [Nat.zero_add]; rfl
  | j + 1, i, k, h => by
    rw [show j + 1 + k = (j + k) + 1 by omega]
    simp only [vgo]
    rw [if_pos (by have := h 0 (by omega); simpa using this), vgo_skip l j (i + 1) k (fun m hm => by have := h (m + 1) (by omega); rw [show i + 1 + m = i + (m + 1) by omega]; exact this)]
    congr 1; omega
theorem val_hit {l : List ByteArray} {i : Nat} (h1 : ¬ (l.length = 0 ∨ 200 < l.length)) (hi : i < l.length) (h : ∀ j, j < i → vst l j = 0) (hne : vst l i ≠ 0) : val l = vst l i := by
  unfold val
  rw [if_neg h1, show l.length = i + (l.length - i) by omega, vgo_skip l i 0 _ (fun m hm => by rw [Nat.zero_add]; exact h m hm), Nat.zero_add]
  obtain ⟨k, hk⟩ : ∃ k, l.length - i = k + 1 := ⟨l.length - i - 1, by omega⟩
  rw [hk]
  simp only [vgo]
  rw [if_neg hne]
theorem val_ok {l : List ByteArray} (h1 : ¬ (l.length = 0 ∨ 200 < l.length)) (h : ∀ j, j < l.length → vst l j = 0) : val l = 0 := by
  unfold val
  rw [if_neg h1]
  have := vgo_skip l l.length 0 0 (fun m hm => by rw [Nat.zero_add]; exact h m hm)
  rw [Nat.add_zero, Nat.zero_add] at this
  rw [this]; rfl
theorem val_count {l : List ByteArray} (h1 : l.length = 0 ∨ 200 < l.length) : val l = 61 := by unfold val; rw [if_pos h1]
theorem vs_code {bs : List ByteArray} {s : ByteArray} (h : P s = none) : vs bs s = 60 := by unfold vs; rw [h]
theorem vs_order {bs : List ByteArray} {s : ByteArray} {p : List Nat} (h : P s = some p) (h1 : 0 < bs.length ∧ 0 ≤ cmpS (bs.getD (bs.length - 1) emp) s) : vs bs s = 62 := by unfold vs; rw [h]; exact if_pos h1
theorem vs_parent {bs : List ByteArray} {s : ByteArray} {p : List Nat} (h : P s = some p) (h1 : ¬ (0 < bs.length ∧ 0 ≤ cmpS (bs.getD (bs.length - 1) emp) s)) (h2 : (par s).1.toList.isEmpty = false ∧ Lib.containsS bs (par s).1 = false) : vs bs s = 63 := by
  unfold vs; rw [h]; simp only; rw [if_neg h1, if_pos h2]
theorem vs_ok {bs : List ByteArray} {s : ByteArray} {p : List Nat} (h : P s = some p) (h1 : ¬ (0 < bs.length ∧ 0 ≤ cmpS (bs.getD (bs.length - 1) emp) s)) (h2 : ¬ ((par s).1.toList.isEmpty = false ∧ Lib.containsS bs (par s).1 = false)) : vs bs s = 0 := by
  unfold vs; rw [h]; simp only; rw [if_neg h1, if_neg h2]
theorem vst_get {l : List ByteArray} {i : Nat} (hi : i < l.length) : (l.take i).getD ((l.take i).length - 1) emp = l.getD (i - 1) emp ∨ i = 0 := by
  by_cases h : i = 0
  · exact .inr h
  · left
    have h1 : (l.take i).length = i := by rw [List.length_take]; omega
    rw [h1]
    have h2 : i - 1 < i := by omega
    have h3 : i - 1 < l.length := by omega
    simp [List.getD, h2]
end Go.Proofs.YtkodfmpaeemaiaaDoor.C6
