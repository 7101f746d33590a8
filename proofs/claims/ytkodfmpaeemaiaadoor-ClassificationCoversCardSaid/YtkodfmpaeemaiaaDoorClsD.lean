import Derived.Test.YtkodfmpaeemaiaaDoorCls16
/- What a valid list is, over parts: the beginning of the mathematics of leaves. -/
namespace Go.Proofs.YtkodfmpaeemaiaaDoor.C6
open Go.RowKit Go.Sort

theorem emp_of {s : ByteArray} (h : s.toList.isEmpty = true) : s = emp := ba_ext (by rw [← ByteArray.toList_eq, List.isEmpty_iff.1 h])
theorem vs_zero {bs : List ByteArray} {s : ByteArray} (h : vs bs s = 0) : ∃ p, P s = some p ∧ (0 < bs.length → cmpS (bs.getD (bs.length - 1) emp) s < 0) ∧ ((par s).1 = emp ∨ (par s).1 ∈ bs) := by
  cases hP : P s with
  | none => rw [vs_code hP] at h; omega
  | some p =>
    have h1 : ¬ (0 < bs.length ∧ 0 ≤ cmpS (bs.getD (bs.length - 1) emp) s) := fun c => by rw [vs_order hP c] at h; omega
    refine ⟨p, rfl, fun h0 => ?_, ?_⟩
    · have : ¬ (0 ≤ cmpS (bs.getD (bs.length - 1) emp) s) := fun c => h1 ⟨h0, c⟩
      omega
    · apply Classical.byContradiction
      intro c
      have c1 : (par s).1.toList.isEmpty = false := by
        cases he : (par s).1.toList.isEmpty
        · rfl
        · exact absurd (.inl (emp_of he)) c
      have c2 : Lib.containsS bs (par s).1 = false := by
        cases he : Lib.containsS bs (par s).1
        · rfl
        · exact absurd (.inr ((Lib.containsS_iff bs _).1 he)) c
      rw [vs_parent hP h1 ⟨c1, c2⟩] at h
      omega
theorem VL.unsnoc {l : List ByteArray} {s : ByteArray} (h : VL (l ++ [s])) : VL l ∧ vs l s = 0 := by
  constructor
  · intro j hj
    have := h j (by simp; omega)
    unfold vst at this ⊢
    rw [List.take_append_of_le_length (Nat.le_of_lt hj)] at this
    simpa [List.getD, List.getElem?_append_left hj] using this
  · have := h l.length (by simp)
    unfold vst at this
    rw [List.take_left] at this
    simpa [List.getD] using this
theorem cmpL_lt {a q p : List Nat} (h1 : cmpL a q ≤ 0) (h2 : cmpL q p < 0) : cmpL a p < 0 := by
  have h3 := cmpL_trans a q p h1 (by omega)
  by_cases h0 : cmpL a p = 0
  · have e := (cmpL_zero a p).1 h0
    rw [e] at h1
    have := cmpL_anti p q
    omega
  · omega
theorem cmpL_lt' {a q p : List Nat} (h1 : cmpL a q < 0) (h2 : cmpL q p ≤ 0) : cmpL a p < 0 := by
  have h3 := cmpL_trans a q p (by omega) h2
  by_cases h0 : cmpL a p = 0
  · have e := (cmpL_zero a p).1 h0
    rw [← e] at h2
    have := cmpL_anti a q
    omega
  · omega
/-- lists of parts that stand as a valid classification's -/
def VP (ps : List (List Nat)) : Prop := (∀ p ∈ ps, Pts p) ∧ ps.Pairwise (fun p q => cmpL p q < 0) ∧ ∀ p ∈ ps, p.length = 1 ∨ p.dropLast ∈ ps
theorem VL.parts : ∀ (n : Nat) (l : List ByteArray), l.length = n → VL l → ∃ ps, l = ps.map txt ∧ VP ps := by
  intro n
  induction n with
  | zero =>
    intro l hl _
    exact ⟨[], List.eq_nil_of_length_eq_zero hl, by simp, by simp, by simp⟩
  | succ n ih =>
    intro l hl hv
    have hne : l ≠ [] := by intro e; rw [e] at hl; cases hl
    rw [← List.dropLast_concat_getLast hne] at hv
    obtain ⟨hv1, hv2⟩ := hv.unsnoc
    obtain ⟨ps, e1, h1, h2, h3⟩ := ih l.dropLast (by rw [List.length_dropLast]; omega) hv1
    obtain ⟨p, hP, ho, hp⟩ := vs_zero hv2
    obtain ⟨hpt, hs⟩ := P_some hP
    refine ⟨ps ++ [p], ?_, ?_, ?_, ?_⟩
    · rw [List.map_append, ← e1, List.map_singleton, ← hs]
      exact (List.dropLast_concat_getLast hne).symm
    · intro q hq
      rcases List.mem_append.1 hq with h | h
      · exact h1 q h
      · rw [List.mem_singleton.1 h]; exact hpt
    · refine List.pairwise_append.2 ⟨h2, List.pairwise_singleton _ _, fun a ha b hb => ?_⟩
      rw [List.mem_singleton.1 hb]
      have hn : ps ≠ [] := fun e => by rw [e] at ha; cases ha
      have hlast : cmpL (ps.getLast hn) p < 0 := by
        have h0 : 0 < l.dropLast.length := by rw [e1, List.length_map]; exact List.length_pos_iff.2 hn
        have := ho h0
        rw [e1, hs] at this
        rw [← cmpS_txt (h1 _ (List.getLast_mem hn)) hpt]
        have e : (ps.map txt).getD ((ps.map txt).length - 1) emp = txt (ps.getLast hn) := by
          rw [List.getLast_eq_getElem]
          have : ps.length - 1 < ps.length := by have := List.length_pos_iff.2 hn; omega
          simp [List.getD, this]
        rw [e] at this
        exact this
      refine cmpL_lt ?_ hlast
      rw [← List.dropLast_concat_getLast hn] at ha h2
      rcases List.mem_append.1 ha with h | h
      · have := (List.pairwise_append.1 h2).2.2 a h _ (List.mem_singleton.2 rfl)
        omega
      · rw [List.mem_singleton.1 h]
        have := (cmpL_zero (ps.getLast hn) (ps.getLast hn)).2 rfl
        omega
    · intro q hq
      rcases List.mem_append.1 hq with h | h
      · rcases h3 q h with h' | h'
        · exact .inl h'
        · exact .inr (List.mem_append.2 (.inl h'))
      · rw [List.mem_singleton.1 h]
        have hx : (par (l.getLast hne)).1 = txt p.dropLast := by unfold par; rw [hP]
        rw [hx] at hp
        have hns : Ns p.dropLast := by rw [List.dropLast_eq_take]; exact hpt.2.2.take _
        rcases hp with h' | h'
        · have := txt_emp h'
          have h0 := congrArg List.length this
          rw [List.length_dropLast] at h0
          have := hpt.1
          simp at h0
          exact .inl (by omega)
        · rw [e1] at h'
          obtain ⟨r, hr, e⟩ := List.mem_map.1 h'
          rw [← txt_inj (h1 r hr).2.2 hns e]
          exact .inr (List.mem_append.2 (.inl hr))
end Go.Proofs.YtkodfmpaeemaiaaDoor.C6
