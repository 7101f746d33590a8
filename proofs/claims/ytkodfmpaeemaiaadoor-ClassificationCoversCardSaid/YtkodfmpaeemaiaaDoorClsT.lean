import Derived.Test.YtkodfmpaeemaiaaDoorClsS
/- The order of texts is total; what is common is the greatest lower bound. -/
namespace Go.Proofs.YtkodfmpaeemaiaaDoor.C6
open Go.RowKit

theorem cmpL_anti : ∀ (p q : List Nat), cmpL q p = - cmpL p q
  | [], [] => rfl
  | [], _ :: _ => rfl
  | _ :: _, [] => rfl
  | a :: p, b :: q => by
    simp only [cmpL]
    by_cases h1 : a < b
    · rw [if_neg (by omega), if_pos h1, if_pos h1]; rfl
    · by_cases h2 : b < a
      · rw [if_pos h2, if_neg h1, if_pos h2]
      · rw [if_neg h2, if_neg h1, if_neg h1, if_neg h2, cmpL_anti p q]
theorem cmpL_zero : ∀ (p q : List Nat), cmpL p q = 0 ↔ p = q
  | [], [] => by simp [cmpL]
  | [], _ :: _ => by simp [cmpL]
  | _ :: _, [] => by simp [cmpL]
  | a :: p, b :: q => by
    simp only [cmpL, List.cons.injEq]
    by_cases h1 : a < b
    · rw [if_pos h1]; constructor
      · intro h; omega
      · intro h; omega
    · by_cases h2 : b < a
      · rw [if_neg h1, if_pos h2]; constructor
        · intro h; omega
        · intro h; omega
      · rw [if_neg h1, if_neg h2, cmpL_zero p q]
        constructor
        · intro h; exact ⟨by omega, h⟩
        · intro h; exact h.2
theorem cmpL_trans : ∀ (p q r : List Nat), cmpL p q ≤ 0 → cmpL q r ≤ 0 → cmpL p r ≤ 0
  | [], _, [], _, _ => by simp [cmpL]
  | [], _, _ :: _, _, _ => by simp [cmpL]
  | _ :: _, [], _, h, _ => by simp [cmpL] at h
  | _ :: _, _ :: _, [], _, h => by simp [cmpL] at h
  | a :: p, b :: q, c :: r, h1, h2 => by
    simp only [cmpL] at h1 h2 ⊢
    by_cases hab : a < b
    · by_cases hbc : b < c
      · rw [if_pos (by omega)]; omega
      · by_cases hcb : c < b
        · rw [if_neg hbc, if_pos hcb] at h2; omega
        · rw [if_pos (by omega)]; omega
    · by_cases hba : b < a
      · rw [if_neg hab, if_pos hba] at h1; omega
      · by_cases hbc : b < c
        · rw [if_pos (by omega)]; omega
        · by_cases hcb : c < b
          · rw [if_neg hbc, if_pos hcb] at h2; omega
          · rw [if_neg hab, if_neg hba] at h1
            rw [if_neg hbc, if_neg hcb] at h2
            rw [if_neg (by omega), if_neg (by omega)]
            exact cmpL_trans p q r h1 h2
theorem cmpL_pre : ∀ (p q : List Nat), q <+: p → cmpL q p ≤ 0
  | [], [], _ => by simp [cmpL]
  | _ :: _, [], _ => by simp [cmpL]
  | [], b :: q, h => by simp at h
  | a :: p, b :: q, h => by
    obtain ⟨rfl, h'⟩ := List.cons_prefix_cons.1 h
    simp only [cmpL, Nat.lt_irrefl, if_false]
    exact cmpL_pre p q h'
/-- the same of bytes -/
theorem cb_anti : ∀ (p q : List UInt8), Lib.compareBytes q p = - Lib.compareBytes p q
  | [], [] => rfl
  | [], _ :: _ => rfl
  | _ :: _, [] => rfl
  | a :: p, b :: q => by
    simp only [Lib.compareBytes]
    by_cases h1 : a < b
    · have h2 : ¬ b < a := fun h => by simp only [UInt8.lt_iff_toNat_lt] at h1 h; omega
      rw [if_neg h2, if_pos h1, if_pos h1]; rfl
    · by_cases h2 : b < a
      · rw [if_pos h2, if_neg h1, if_pos h2]
      · rw [if_neg h2, if_neg h1, if_neg h1, if_neg h2, cb_anti p q]
theorem u8_eq {a b : UInt8} (h1 : ¬ a < b) (h2 : ¬ b < a) : a = b := by
  simp only [UInt8.lt_iff_toNat_lt] at h1 h2
  exact UInt8.toNat_inj.1 (by omega)
theorem cb_zero : ∀ (p q : List UInt8), Lib.compareBytes p q = 0 ↔ p = q
  | [], [] => by simp [Lib.compareBytes]
  | [], _ :: _ => by simp [Lib.compareBytes]
  | _ :: _, [] => by simp [Lib.compareBytes]
  | a :: p, b :: q => by
    simp only [Lib.compareBytes, List.cons.injEq]
    by_cases h1 : a < b
    · rw [if_pos h1]; constructor
      · intro h; omega
      · rintro ⟨rfl, _⟩; simp only [UInt8.lt_iff_toNat_lt] at h1; omega
    · by_cases h2 : b < a
      · rw [if_neg h1, if_pos h2]; constructor
        · intro h; omega
        · rintro ⟨rfl, _⟩; simp only [UInt8.lt_iff_toNat_lt] at h2; omega
      · rw [if_neg h1, if_neg h2, cb_zero p q]
        constructor
        · intro h; exact ⟨u8_eq h1 h2, h⟩
        · intro h; exact h.2
theorem cb_trans : ∀ (p q r : List UInt8), Lib.compareBytes p q ≤ 0 → Lib.compareBytes q r ≤ 0 → Lib.compareBytes p r ≤ 0
  | [], _, [], _, _ => by simp [Lib.compareBytes]
  | [], _, _ :: _, _, _ => by simp [Lib.compareBytes]
  | _ :: _, [], _, h, _ => by simp [Lib.compareBytes] at h
  | _ :: _, _ :: _, [], _, h => by simp [Lib.compareBytes] at h
  | a :: p, b :: q, c :: r, h1, h2 => by
    simp only [Lib.compareBytes] at h1 h2 ⊢
    by_cases hab : a < b
    · by_cases hbc : b < c
      · rw [if_pos (by simp only [UInt8.lt_iff_toNat_lt] at *; omega)]; omega
      · by_cases hcb : c < b
        · rw [if_neg hbc, if_pos hcb] at h2; omega
        · rw [u8_eq hbc hcb] at hab
          rw [if_pos hab]; omega
    · by_cases hba : b < a
      · rw [if_neg hab, if_pos hba] at h1; omega
      · have e1 := u8_eq hab hba
        subst e1
        by_cases hbc : a < c
        · rw [if_pos hbc]; omega
        · by_cases hcb : c < a
          · rw [if_neg hbc, if_pos hcb] at h2; omega
          · rw [if_neg hab, if_neg hab] at h1
            rw [if_neg hbc, if_neg hcb] at h2
            rw [if_neg hbc, if_neg hcb]
            exact cb_trans p q r h1 h2

theorem cmpL_bd : ∀ (p q : List Nat), -1 ≤ cmpL p q ∧ cmpL p q ≤ 1
  | [], [] => by simp [cmpL]
  | [], _ :: _ => by simp [cmpL]
  | _ :: _, [] => by simp [cmpL]
  | a :: p, b :: q => by
    have := cmpL_bd p q
    simp only [cmpL]
    split
    · omega
    · split
      · omega
      · exact this
theorem cb_bd : ∀ (p q : List UInt8), -1 ≤ Lib.compareBytes p q ∧ Lib.compareBytes p q ≤ 1
  | [], [] => by simp [Lib.compareBytes]
  | [], _ :: _ => by simp [Lib.compareBytes]
  | _ :: _, [] => by simp [Lib.compareBytes]
  | a :: p, b :: q => by
    have := cb_bd p q
    simp only [Lib.compareBytes]
    split
    · omega
    · split
      · omega
      · exact this
theorem cmpS_bd (a b : ByteArray) : -1 ≤ cmpS a b ∧ cmpS a b ≤ 1 := by
  unfold cmpS
  cases PO a <;> cases PO b
  · exact cb_bd _ _
  · simp
  · simp
  · exact cmpL_bd _ _
theorem cmpS_anti (a b : ByteArray) : cmpS b a = - cmpS a b := by
  unfold cmpS
  cases PO a <;> cases PO b
  · exact cb_anti _ _
  · rfl
  · rfl
  · exact cmpL_anti _ _
theorem cmpS_zero (a b : ByteArray) : cmpS a b = 0 ↔ a = b := by
  unfold cmpS
  cases ha : PO a with
  | none => cases hb : PO b with
    | none =>
      simp only
      rw [cb_zero]
      exact ⟨ba_ext, fun h => by rw [h]⟩
    | some q =>
      simp only
      exact ⟨fun h => by omega, fun h => by rw [h, hb] at ha; cases ha⟩
  | some p => cases hb : PO b with
    | none =>
      simp only
      exact ⟨fun h => by omega, fun h => by rw [h, hb] at ha; cases ha⟩
    | some q =>
      simp only
      rw [cmpL_zero]
      exact ⟨fun h => by rw [(PO_some ha).2.2.1, (PO_some hb).2.2.1, h], fun h => by rw [h, hb] at ha; exact (Option.some.inj ha).symm⟩
theorem cmpS_trans (a b c : ByteArray) (h1 : cmpS a b ≤ 0) (h2 : cmpS b c ≤ 0) : cmpS a c ≤ 0 := by
  revert h1 h2
  unfold cmpS
  cases PO a with
  | none => cases PO b with
    | none => cases PO c with
      | none => exact fun h1 h2 => cb_trans _ _ _ h1 h2
      | some r => simp only; intro _ h; omega
    | some q => simp only; intro h; omega
  | some p => cases PO b with
    | none => cases PO c with
      | none => simp only; intro _ _; omega
      | some r => simp only; intro _ h; omega
    | some q => cases PO c with
      | none => simp only; intro _ _; omega
      | some r => exact fun h1 h2 => cmpL_trans _ _ _ h1 h2
/-- what is common is within both, and the longest such -/
theorem PO_com {a b : ByteArray} {p q : List Nat} (ha : PO a = some p) (hb : PO b = some q) : PO (com a b) = some (lcp p q) := by
  have hp := PO_some ha
  unfold com
  rw [ha, hb]
  simp only
  rw [lcp_take p q]
  exact PO_txt (hp.1.take _) (by rw [List.length_take]; omega)
theorem lcp_left (p q : List Nat) : lcp p q <+: p := by rw [lcp_take p q]; exact List.take_prefix _ _
theorem lcp_right (p q : List Nat) : lcp p q <+: q := by rw [lcp_take' p q]; exact List.take_prefix _ _
theorem lcp_great : ∀ (p q r : List Nat), r <+: p → r <+: q → r <+: lcp p q
  | _, _, [], _, _ => List.nil_prefix
  | [], _, c :: r, h, _ => by simp at h
  | _ :: _, [], c :: r, _, h => by simp at h
  | a :: p, b :: q, c :: r, h1, h2 => by
    obtain ⟨rfl, h1'⟩ := List.cons_prefix_cons.1 h1
    obtain ⟨rfl, h2'⟩ := List.cons_prefix_cons.1 h2
    unfold lcp
    rw [if_pos rfl]
    exact List.cons_prefix_cons.2 ⟨rfl, lcp_great p q r h1' h2'⟩
theorem wi_of {s a : ByteArray} {p q : List Nat} (h : PO s = some p) (k : PO a = some q) : wi s a = decide (q <+: p) := by unfold wi; rw [h, k]
theorem wi_left {a b : ByteArray} {p q : List Nat} (ha : PO a = some p) (hb : PO b = some q) : wi a (com a b) = true := by rw [wi_of ha (PO_com ha hb), decide_eq_true (lcp_left p q)]
theorem wi_right {a b : ByteArray} {p q : List Nat} (ha : PO a = some p) (hb : PO b = some q) : wi b (com a b) = true := by rw [wi_of hb (PO_com ha hb), decide_eq_true (lcp_right p q)]
theorem wi_true {s a : ByteArray} (h : wi s a = true) : ∃ p q, PO s = some p ∧ PO a = some q ∧ q <+: p := by
  unfold wi at h
  cases hs : PO s with
  | none => rw [hs] at h; cases h
  | some p => cases ha : PO a with
    | none => rw [hs, ha] at h; cases h
    | some q => rw [hs, ha] at h; exact ⟨p, q, rfl, rfl, of_decide_eq_true h⟩
theorem wi_com {a b c : ByteArray} (h1 : wi a c = true) (h2 : wi b c = true) : wi (com a b) c = true := by
  obtain ⟨p, r, hp, hr, k1⟩ := wi_true h1
  obtain ⟨q, r', hq, hr', k2⟩ := wi_true h2
  have : r' = r := Option.some.inj (hr'.symm.trans hr)
  subst this
  rw [wi_of (PO_com hp hq) hr, decide_eq_true (lcp_great p q r' k1 k2)]
theorem wi_cmp {a b : ByteArray} (h : wi a b = true) : cmpS b a ≤ 0 := by
  obtain ⟨p, q, hp, hq, k⟩ := wi_true h
  unfold cmpS
  rw [hp, hq]
  exact cmpL_pre p q k
theorem lev_ge {a : ByteArray} (h : 0 ≤ lev a) : ∃ p, PO a = some p := by
  unfold lev at h
  cases ha : PO a with
  | none => rw [ha] at h; simp at h
  | some p => exact ⟨p, rfl⟩
end Go.Proofs.YtkodfmpaeemaiaaDoor.C6
