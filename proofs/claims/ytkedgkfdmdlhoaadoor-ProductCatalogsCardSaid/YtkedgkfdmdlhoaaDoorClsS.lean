import Derived.Test.YtkedgkfdmdlhoaaDoorCls1
/- Hierarchical codes: what the functions say of texts, in plain terms. -/
namespace Go.Proofs.YtkedgkfdmdlhoaaDoor.C6
open Go.RowKit

abbrev emp : ByteArray := ⟨#[]⟩
theorem txt_nil : txt [] = emp := rfl
theorem txt_emp {p : List Nat} (h : txt p = emp) : p = [] := by
  have := congrArg (fun s : ByteArray => s.data.toList) h
  simp only [txt_list] at this
  by_cases hp : p = []
  · exact hp
  · exact absurd this (cod_ne hp)
/-- the parts of a code, if a text is one -/
noncomputable def P (s : ByteArray) : Option (List Nat) := open Classical in if h : ∃ p, Pts p ∧ s = txt p then some h.choose else none
theorem P_txt {p : List Nat} (h : Pts p) : P (txt p) = some p := by
  have hx : ∃ q, Pts q ∧ txt p = txt q := ⟨p, h, rfl⟩
  unfold P
  rw [dif_pos hx]
  exact congrArg some (txt_inj h.2.2 hx.choose_spec.1.2.2 hx.choose_spec.2).symm
theorem P_none {s : ByteArray} (h : ∀ p, Pts p → s ≠ txt p) : P s = none := by
  unfold P
  rw [dif_neg]
  rintro ⟨p, hp, e⟩
  exact h p hp e
theorem P_some {s : ByteArray} {p : List Nat} (h : P s = some p) : Pts p ∧ s = txt p := by
  unfold P at h
  split at h
  · rename_i hx
    cases h
    exact hx.choose_spec
  · cases h
theorem P_emp : P emp = none := P_none (fun p hp e => by
  have := txt_emp e.symm
  have h1 := hp.1
  rw [this] at h1
  simp at h1)
/-- .. where the empty text has no parts -/
noncomputable def PO (s : ByteArray) : Option (List Nat) := if s = emp then some [] else P s
theorem PO_emp : PO emp = some [] := if_pos rfl
theorem PO_P {s : ByteArray} (h : s ≠ emp) : PO s = P s := if_neg h
theorem PO_some {s : ByteArray} {p : List Nat} (h : PO s = some p) : Ns p ∧ p.length ≤ 5 ∧ s = txt p ∧ (p ≠ [] → P s = some p ∧ Pts p) := by
  unfold PO at h
  split at h
  · rename_i e
    cases h
    exact ⟨Ns.nil, by simp, e, fun h => absurd rfl h⟩
  · have := P_some h
    exact ⟨this.1.2.2, this.1.2.1, this.2, fun _ => ⟨h, this.1⟩⟩
theorem PO_of_P {s : ByteArray} {p : List Nat} (h : P s = some p) : PO s = some p := by
  unfold PO
  rw [if_neg, h]
  intro e
  rw [e, P_emp] at h
  cases h
theorem PO_txt {p : List Nat} (h : Ns p) (h5 : p.length ≤ 5) : PO (txt p) = some p := by
  by_cases hp : p = []
  · subst hp; exact PO_emp
  · exact PO_of_P (P_txt ⟨List.length_pos_iff.2 hp, h5, h⟩)

noncomputable def lev (s : ByteArray) : Int := match PO s with | some p => (p.length : Int) | none => -1
/-- the beginnings of a code -/
def prefs (p : List Nat) : List ByteArray := (List.range p.length).map fun i => txt (p.take (i + 1))
theorem prefs_length (p : List Nat) : (prefs p).length = p.length := by simp [prefs]
theorem prefs_snoc (q : List Nat) (n : Nat) : prefs (q ++ [n]) = prefs q ++ [txt (q ++ [n])] := by
  unfold prefs
  rw [List.length_append, List.length_singleton, List.range_succ, List.map_append, List.map_singleton, List.take_of_length_le (by simp)]
  congr 1
  apply List.map_congr_left
  intro i hi
  have hi' : i < q.length := by simpa using hi
  rw [List.take_append_of_le_length (by omega)]
theorem prefs_get {p : List Nat} {i : Nat} (hi : i < p.length) : (prefs p).getD i emp = txt (p.take (i + 1)) := by simp [prefs, List.getD, hi]
noncomputable def pth (s : ByteArray) : List ByteArray := match P s with | some p => prefs p | none => []
noncomputable def par (s : ByteArray) : ByteArray × Bool := match P s with | some p => (txt p.dropLast, true) | none => (emp, false)

/-- the common beginning of two lists of parts, their order -/
def lcp : List Nat → List Nat → List Nat
  | a :: p, b :: q => if a = b then a :: lcp p q else []
  | _, _ => []
def cmpL : List Nat → List Nat → Int
  | [], [] => 0
  | [], _ :: _ => -1
  | _ :: _, [] => 1
  | a :: p, b :: q => if a < b then -1 else if b < a then 1 else cmpL p q
theorem lcp_take : ∀ (p q : List Nat), lcp p q = p.take (lcp p q).length
  | [], _ => by simp [lcp]
  | _ :: _, [] => by simp [lcp]
  | a :: p, b :: q => by
    unfold lcp
    split
    · rw [List.length_cons, List.take_succ_cons, ← lcp_take p q]
    · rfl
theorem lcp_take' : ∀ (p q : List Nat), lcp p q = q.take (lcp p q).length
  | [], _ => by simp [lcp]
  | _ :: _, [] => by simp [lcp]
  | a :: p, b :: q => by
    unfold lcp
    split
    · rename_i h
      rw [List.length_cons, List.take_succ_cons, ← lcp_take' p q, h]
    · rfl
theorem lcp_len : ∀ (p q : List Nat), (lcp p q).length ≤ p.length ∧ (lcp p q).length ≤ q.length
  | [], _ => by simp [lcp]
  | _ :: _, [] => by simp [lcp]
  | a :: p, b :: q => by
    have := lcp_len p q
    unfold lcp
    split <;> simp <;> omega
theorem lcp_pre : ∀ (p q : List Nat), (lcp p q).length = q.length ↔ q <+: p
  | [], [] => by simp [lcp]
  | [], b :: q => by simp [lcp]
  | a :: p, [] => by simp [lcp]
  | a :: p, b :: q => by
    unfold lcp
    split
    · rename_i h
      subst h
      simp [lcp_pre p q]
    · rename_i h
      constructor
      · intro e; simp at e
      · intro e
        have := List.cons_prefix_cons.1 e
        exact absurd this.1.symm h
/-- how far two lists agree, place by place -/
theorem lcp_step : ∀ (p q : List Nat) (i : Nat), i ≤ (lcp p q).length → (hi : i < p.length) → (hj : i < q.length) → (p[i] = q[i] ↔ i < (lcp p q).length)
  | a :: p, b :: q, 0, _, _, _ => by
    unfold lcp
    simp
    split <;> simp_all
  | a :: p, b :: q, i + 1, h, hi, hj => by
    unfold lcp at h ⊢
    split at h
    · rename_i hab
      rw [if_pos hab]
      simp only [List.length_cons] at h ⊢
      have := lcp_step p q i (by omega) (by simpa using hi) (by simpa using hj)
      simpa using this
    · simp at h
/-- the order at the first place that differs -/
theorem cmpL_at : ∀ (p q : List Nat) (i : Nat), i = (lcp p q).length → cmpL p q = if h : i < p.length then (if h2 : i < q.length then (if p[i] < q[i] then -1 else 1) else 1) else (if i < q.length then -1 else 0)
  | [], [], i, h => by simp [lcp] at h; subst h; simp [cmpL]
  | [], b :: q, i, h => by simp [lcp] at h; subst h; simp [cmpL]
  | a :: p, [], i, h => by simp [lcp] at h; subst h; simp [cmpL]
  | a :: p, b :: q, i, h => by
    unfold lcp at h
    split at h
    · rename_i hab
      subst hab
      simp only [List.length_cons] at h
      subst h
      have := cmpL_at p q _ rfl
      simp only [cmpL, Nat.lt_irrefl, if_false, List.length_cons, Nat.add_lt_add_iff_right, List.getElem_cons_succ]
      exact this
    · rename_i hab
      simp only [List.length_nil] at h
      subst h
      simp only [cmpL, List.length_cons, Nat.zero_lt_succ, dif_pos, List.getElem_cons_zero]
      by_cases h1 : a < b
      · rw [if_pos h1, if_pos h1]
      · rw [if_neg h1, if_neg h1, if_pos (by omega)]
/-- Within, Common, Compare -/
noncomputable def wi (s a : ByteArray) : Bool := match PO s, PO a with | some p, some q => decide (q <+: p) | _, _ => false
noncomputable def com (a b : ByteArray) : ByteArray := match PO a, PO b with | some p, some q => txt (lcp p q) | _, _ => emp
noncomputable def cmpS (a b : ByteArray) : Int := match PO a, PO b with
  | some p, some q => cmpL p q
  | some _, none => -1
  | none, some _ => 1
  | none, none => Lib.compareBytes a.data.toList b.data.toList
end Go.Proofs.YtkedgkfdmdlhoaaDoor.C6
