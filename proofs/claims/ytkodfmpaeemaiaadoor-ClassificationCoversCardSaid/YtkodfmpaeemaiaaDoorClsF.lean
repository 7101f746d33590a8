import Derived.Test.YtkodfmpaeemaiaaDoorClsE
import Derived.Test.YtkodfmpaeemaiaaDoorCls23
/- Children and leaves of a valid list, as lists of parts. -/
namespace Go.Proofs.YtkodfmpaeemaiaaDoor.C6
open Go.RowKit Go.Sort

theorem selT_filter (ps : List (List Nat)) (f : Nat → Bool) (g : List Nat → Bool) (h : ∀ i (hi : i < ps.length), f i = g ps[i]) : ∀ i, i ≤ ps.length → selT (ps.map txt) f i = ((ps.take i).filter g).map txt
  | 0, _ => rfl
  | i + 1, hi => by
    have hlt : i < ps.length := by omega
    have ih := selT_filter ps f g h i (by omega)
    have hg := h i hlt
    rw [List.take_add_one, List.getElem?_eq_getElem hlt, List.filter_append, List.map_append]
    cases hf : f i
    · rw [selT_no hf, ih]
      rw [hf] at hg
      simp [List.filter, ← hg]
    · rw [selT_yes hf, ih]
      rw [hf] at hg
      simp [List.filter, ← hg, List.getD, hlt]
theorem wi_txt {p q : List Nat} (hp : Pts p) (hq : Ns q) (h5 : q.length ≤ 5) : wi (txt p) (txt q) = decide (q <+: p) := wi_of (PO_of_P (P_txt hp)) (PO_txt hq h5)
theorem getD_txt {ps : List (List Nat)} {i : Nat} (hi : i < ps.length) : (ps.map txt).getD i ByteArray.empty = txt ps[i] := by simp [List.getD, hi]
open Classical in
theorem lf_iff {ps : List (List Nat)} (h : VP ps) {i : Nat} (hi : i < ps.length) : lf (ps.map txt) i = decide (Leaf ps ps[i]) := by
  have hlt : ∀ a b (ha : a < ps.length) (hb : b < ps.length), a < b → cmpL ps[a] ps[b] < 0 := fun a b ha hb hab => List.pairwise_iff_getElem.1 h.2.1 a b ha hb hab
  have hpi := h.1 _ (List.getElem_mem hi)
  by_cases hl : i + 1 = ps.length
  · rw [lf_last (by rw [List.length_map]; exact hl)]
    refine (@decide_eq_true (Leaf ps ps[i]) (propDecidable _) (fun q hq hpre => ?_)).symm
    obtain ⟨j, hj, rfl⟩ := List.getElem_of_mem hq
    by_cases hji : j < i
    · have h1 := hlt j i hj hi hji
      have h2 := cmpL_pre _ _ hpre
      have := cmpL_anti ps[i] ps[j]
      omega
    · have : j = i := by omega
      subst this
      rfl
  · have hi1 : i + 1 < ps.length := by omega
    rw [lf_not (by rw [List.length_map]; exact hl), getD_txt hi1, getD_txt hi, wi_txt (h.1 _ (List.getElem_mem hi1)) hpi.2.2 hpi.2.1]
    by_cases hp : ps[i] <+: ps[i + 1]
    · rw [decide_eq_true hp]
      refine (@decide_eq_false (Leaf ps ps[i]) (propDecidable _) (fun hL => ?_)).symm
      have e := hL _ (List.getElem_mem hi1) hp
      have h1 := hlt i (i + 1) hi hi1 (by omega)
      rw [e] at h1
      exact cmpL_irr _ h1
    · rw [decide_eq_false hp]
      refine (@decide_eq_true (Leaf ps ps[i]) (propDecidable _) (fun q hq hpre => ?_)).symm
      obtain ⟨j, hj, rfl⟩ := List.getElem_of_mem hq
      by_cases hji : j < i
      · have h1 := hlt j i hj hi hji
        have h2 := cmpL_pre _ _ hpre
        have := cmpL_anti ps[i] ps[j]
        omega
      · by_cases hje : j = i
        · subst hje; rfl
        · exfalso
          obtain ⟨r, hr⟩ := hpre
          have h1 := hlt i (i + 1) hi hi1 (by omega)
          have h2 : cmpL ps[i + 1] ps[j] ≤ 0 := by
            by_cases hj1 : j = i + 1
            · subst hj1
              have := (cmpL_zero ps[i + 1] ps[i + 1]).2 rfl
              omega
            · have := hlt (i + 1) j hi1 hj (by omega)
              omega
          rw [← hr] at h2
          exact hp (between _ _ r (by omega) h2)
theorem sel_leaves {ps : List (List Nat)} (h : VP ps) {q : List Nat} (hq : Ns q) (h5 : q.length ≤ 5) : selT (ps.map txt) (lvf (ps.map txt) (txt q)) ps.length = (Lv ps q).map txt := by
  rw [selT_filter ps _ (fun p => open Classical in decide (q <+: p ∧ Leaf ps p)) (fun i hi => ?_) ps.length (Nat.le_refl _), List.take_length]
  · rfl
  · unfold lvf
    rw [getD_txt hi, wi_txt (h.1 _ (List.getElem_mem hi)) hq h5, lf_iff h hi]
    by_cases h1 : q <+: ps[i] <;> by_cases h2 : Leaf ps ps[i] <;> simp [h1, h2]
theorem sel_kids {ps : List (List Nat)} (h : VP ps) {q : List Nat} (hq : Ns q) : selT (ps.map txt) (chf (ps.map txt) (txt q)) ps.length = (Kd ps q).map txt := by
  rw [selT_filter ps _ (fun p => open Classical in decide (p.dropLast = q)) (fun i hi => ?_) ps.length (Nat.le_refl _), List.take_length]
  · rfl
  · have hp := h.1 _ (List.getElem_mem hi)
    have hx : (par (txt ps[i])).1 = txt ps[i].dropLast := by unfold par; rw [P_txt hp]
    have hns : Ns ps[i].dropLast := by rw [List.dropLast_eq_take]; exact hp.2.2.take _
    unfold chf
    rw [getD_txt hi, hx]
    by_cases e : ps[i].dropLast = q
    · rw [e, decide_eq_true rfl]; simp
    · rw [decide_eq_false e]; exact ne_text (fun e' => e (txt_inj hns hq e'))
theorem kn_ok {l : List ByteArray} {u : ByteArray} (h : VL l) (h1 : 1 ≤ l.length) (h2 : l.length ≤ 200) (hu : u = emp ∨ u ∈ l) : kn l u = true := by
  unfold kn
  rw [h.val h1 h2]
  rcases hu with rfl | hu
  · have e : emp.toList.isEmpty = true := by rw [ByteArray.toList_eq]; rfl
    rw [e]; rfl
  · rw [(Lib.containsS_iff l u).2 hu, Bool.or_true]; rfl
theorem VP.first {ps : List (List Nat)} (h : VP ps) (hne : ps ≠ []) : Kd ps [] ≠ [] := by
  obtain ⟨p, hp⟩ := List.exists_mem_of_ne_nil _ hne
  have h1 := (h.1 p hp).1
  have h2 := h.up (p.length - 1) p hp 1 (by omega) (Nat.le_refl _)
  have h3 : p.take 1 ∈ Kd ps [] := mem_Kd.2 ⟨h2, by apply List.eq_nil_of_length_eq_zero; rw [List.length_dropLast, List.length_take]; omega⟩
  exact List.ne_nil_of_mem h3
/-- what the promise says of leaves, over parts -/
theorem VP.divides {ps : List (List Nat)} (h : VP ps) (hne : ps ≠ []) {q : List Nat} (hq : q = [] ∨ q ∈ ps) : Lv ps q = if Kd ps q = [] then [q] else (Kd ps q).flatMap (Lv ps) := by
  by_cases hk : Kd ps q = []
  · rw [if_pos hk]
    rcases hq with rfl | hq
    · exact absurd hk (h.first hne)
    · exact h.lone hq hk
  · rw [if_neg hk]; exact h.leaves hk
/-- within each code there is a leaf -/
theorem VP.some_leaf {ps : List (List Nat)} (h : VP ps) : ∀ (m : Nat) (q : List Nat), q ∈ ps → 6 ≤ q.length + m → Lv ps q ≠ []
  | 0, q, hq, hm => by have := (h.1 q hq).2.1; omega
  | m + 1, q, hq, hm => by
    by_cases hk : Kd ps q = []
    · rw [h.lone hq hk]; simp
    · rw [h.leaves hk]
      obtain ⟨k, hk1⟩ := List.exists_mem_of_ne_nil _ hk
      obtain ⟨hk2, hk3⟩ := mem_Kd.1 hk1
      have h1 := congrArg List.length hk3
      rw [List.length_dropLast] at h1
      have h2 := (h.1 k hk2).1
      have h3 := (h.1 q hq).1
      obtain ⟨x, hx⟩ := List.exists_mem_of_ne_nil _ (VP.some_leaf h m k hk2 (by omega))
      exact List.ne_nil_of_mem (List.mem_flatMap.2 ⟨k, hk1, hx⟩)
end Go.Proofs.YtkodfmpaeemaiaaDoor.C6
