import Derived.Test.YtkodfmpaeemaiaaDoorClsF
import Derived.Test.YtkodfmpaeemaiaaDoorCls26
/- Covers: what both functions Cover answer. -/
namespace Go.Proofs.YtkodfmpaeemaiaaDoor.C6
open Go.RowKit Go.Sort

/-- how many strings of a list a code is within -/
noncomputable def cntW (x : ByteArray) (ls : List ByteArray) : Nat := ls.countP (fun s => wi x s)
noncomputable def covA (l : List ByteArray) (u : ByteArray) (ls : List ByteArray) : Bool := ls.all (fun s => wi s u && Lib.containsS l s)
noncomputable def covB (L ls : List ByteArray) : Bool := L.all (fun x => decide (cntW x ls = 1))
noncomputable def cov (l : List ByteArray) (u : ByteArray) (ls : List ByteArray) : Bool := kn l u && (covA l u ls && covB (selK l u (lvf l u)) ls)

theorem of_val {l : List ByteArray} (h : val l = 0) : VL l ∧ 1 ≤ l.length ∧ l.length ≤ 200 := by
  have h1 : ¬ (l.length = 0 ∨ 200 < l.length) := fun c => by rw [val_count c] at h; omega
  exact ⟨fun j hj => val_zero h j hj, by omega, by omega⟩
/-- a valid classification and one of its codes, or "", as parts -/
theorem kn_parts {l : List ByteArray} {u : ByteArray} (h : kn l u = true) : ∃ ps q, l = ps.map txt ∧ VP ps ∧ u = txt q ∧ (q = [] ∨ q ∈ ps) ∧ ps ≠ [] := by
  obtain ⟨hv, h1, _⟩ := of_val (kn_val h)
  obtain ⟨ps, rfl, hp⟩ := VL.parts l.length l rfl hv
  have hne : ps ≠ [] := fun e => by rw [e] at h1; simp at h1
  unfold kn at h
  rw [Bool.and_eq_true, Bool.or_eq_true] at h
  rcases h.2 with he | he
  · refine ⟨ps, [], rfl, hp, ?_, .inl rfl, hne⟩
    rw [txt_nil]
    apply ba_ext
    have he2 : u.data.toList = [] := by rw [← ByteArray.toList_eq]; exact List.isEmpty_iff.1 he
    rw [he2]
  · obtain ⟨p, hp1, hp2⟩ := List.mem_map.1 ((Lib.containsS_iff _ u).1 he)
    exact ⟨ps, p, rfl, hp, hp2.symm, .inr hp1, hne⟩
theorem kn_leaves {ps : List (List Nat)} {q : List Nat} (hp : VP ps) (hq : q = [] ∨ q ∈ ps) (hk : kn (ps.map txt) (txt q) = true) : selK (ps.map txt) (txt q) (lvf (ps.map txt) (txt q)) = (Lv ps q).map txt := by
  unfold selK
  rw [if_pos hk, List.length_map]
  rcases hq with rfl | h
  · exact sel_leaves hp Ns.nil (by simp)
  · exact sel_leaves hp (hp.1 q h).2.2 (hp.1 q h).2.1
theorem kn_kids {ps : List (List Nat)} {q : List Nat} (hp : VP ps) (hq : q = [] ∨ q ∈ ps) (hk : kn (ps.map txt) (txt q) = true) : selK (ps.map txt) (txt q) (chf (ps.map txt) (txt q)) = (Kd ps q).map txt := by
  unfold selK
  rw [if_pos hk, List.length_map]
  rcases hq with rfl | h
  · exact sel_kids hp Ns.nil
  · exact sel_kids hp (hp.1 q h).2.2
theorem wi_parts {ps : List (List Nat)} (hp : VP ps) {p q : List Nat} (h : p ∈ ps) (hq : q = [] ∨ q ∈ ps) : wi (txt p) (txt q) = decide (q <+: p) := by
  rcases hq with rfl | hq
  · exact wi_txt (hp.1 p h) Ns.nil (by simp)
  · exact wi_txt (hp.1 p h) (hp.1 q hq).2.2 (hp.1 q hq).2.1
theorem some_lv {ps : List (List Nat)} (hp : VP ps) (hne : ps ≠ []) {q : List Nat} (hq : q = [] ∨ q ∈ ps) : Lv ps q ≠ [] := by
  rcases hq with rfl | hq
  · rw [hp.leaves (hp.first hne)]
    obtain ⟨k, hk⟩ := List.exists_mem_of_ne_nil _ (hp.first hne)
    obtain ⟨x, hx⟩ := List.exists_mem_of_ne_nil _ (hp.some_leaf 6 k (mem_Kd.1 hk).1 (by omega))
    exact List.ne_nil_of_mem (List.mem_flatMap.2 ⟨k, hk, hx⟩)
  · exact hp.some_leaf 6 q hq (by omega)
/-- counting pairs in both orders -/
theorem sum_le_pairs {α β : Type} (R : α → β → Bool) : ∀ (L : List α) (ls : List β), (∀ x ∈ L, ls.countP (fun s => R x s) = 1) → (∀ s ∈ ls, ∃ x ∈ L, R x s = true) → ls.length ≤ L.length := by
  have key : ∀ (L : List α) (ls : List β), (ls.map (fun s => L.countP (fun x => R x s))).sum = (L.map (fun x => ls.countP (fun s => R x s))).sum := by
    intro L
    induction L with
    | nil => intro ls; induction ls with
      | nil => rfl
      | cons s t ih => simpa using ih
    | cons a t ih =>
      intro ls
      have e : (ls.map (fun s => (a :: t).countP (fun x => R x s))).sum = (ls.map (fun s => t.countP (fun x => R x s))).sum + ls.countP (fun s => R a s) := by
        clear ih
        induction ls with
        | nil => rfl
        | cons s u ih2 =>
          rw [List.map_cons, List.sum_cons, ih2, List.map_cons, List.sum_cons, List.countP_cons, List.countP_cons]
          omega
      rw [e, ih ls, List.map_cons, List.sum_cons]
      omega
  intro L ls h1 h2
  have a : (L.map (fun x => ls.countP (fun s => R x s))).sum = L.length := by
    clear h2 key
    induction L with
    | nil => rfl
    | cons x t ih =>
      rw [List.map_cons, List.sum_cons, h1 x List.mem_cons_self, ih (fun y hy => h1 y (List.mem_cons_of_mem _ hy)), List.length_cons]
      omega
  have b : ls.length ≤ (ls.map (fun s => L.countP (fun x => R x s))).sum := by
    clear a h1 key
    induction ls with
    | nil => simp
    | cons s t ih =>
      have := ih (fun y hy => h2 y (List.mem_cons_of_mem _ hy))
      obtain ⟨x, hx, hr⟩ := h2 s List.mem_cons_self
      have h3 : 0 < L.countP (fun x => R x s) := List.countP_pos_iff.2 ⟨x, hx, hr⟩
      rw [List.map_cons, List.sum_cons, List.length_cons]
      omega
  rw [key, a] at b
  exact b
/-- the first test of the code's Cover changes nothing -/
theorem cov_eq (l : List ByteArray) (u : ByteArray) (ls : List ByteArray) :
    (if (selK l u (lvf l u)).length = 0 ∨ (selK l u (lvf l u)).length < ls.length then false else covA l u ls && covB (selK l u (lvf l u)) ls) = cov l u ls := by
  unfold cov
  cases hk : kn l u with
  | false =>
    have e : selK l u (lvf l u) = [] := by unfold selK; rw [if_neg (by rw [hk]; simp)]
    rw [e, if_pos (.inl rfl)]; rfl
  | true =>
    obtain ⟨ps, q, rfl, hp, rfl, hq, hne⟩ := kn_parts hk
    have hL := kn_leaves hp hq hk
    rw [hL, Bool.true_and]
    have hLne := some_lv hp hne hq
    by_cases hlen : ((Lv ps q).map txt).length < ls.length
    · rw [if_pos (.inr hlen)]
      cases hA : covA (ps.map txt) (txt q) ls with
      | false => rfl
      | true =>
        cases hB : covB ((Lv ps q).map txt) ls with
        | false => rfl
        | true =>
          exfalso
          have := sum_le_pairs (fun x s => wi x s) ((Lv ps q).map txt) ls (fun x hx => by
            have := (List.all_eq_true.1 hB) x hx
            exact of_decide_eq_true this) (fun s hs => by
            have h2 := (List.all_eq_true.1 hA) s hs
            rw [Bool.and_eq_true] at h2
            obtain ⟨p, hp1, rfl⟩ := List.mem_map.1 ((Lib.containsS_iff _ s).1 h2.2)
            rw [wi_parts hp hp1 hq] at h2
            obtain ⟨x, hx⟩ := List.exists_mem_of_ne_nil _ (hp.some_leaf 6 p hp1 (by omega))
            obtain ⟨hx1, hx2, hx3⟩ := mem_Lv.1 hx
            refine ⟨txt x, List.mem_map_of_mem (mem_Lv.2 ⟨hx1, (of_decide_eq_true h2.1).trans hx2, hx3⟩), ?_⟩
            rw [wi_parts hp hx1 (.inr hp1), decide_eq_true hx2])
          omega
    · rw [if_neg]
      rintro (h | h)
      · rw [List.length_map] at h
        exact hLne (List.eq_nil_of_length_eq_zero h)
      · exact hlen h
/-- one of a list without repetition that a predicate chooses -/
theorem count_one {l : List (List Nat)} {f : List Nat → Bool} (h : l.Pairwise (fun p q => cmpL p q < 0)) {x : List Nat} (hx : x ∈ l) (hf : ∀ y ∈ l, f y = true ↔ y = x) : l.countP f = 1 := by
  induction l with
  | nil => cases hx
  | cons a t ih =>
    rw [List.pairwise_cons] at h
    have hirr : ∀ p : List Nat, ¬ cmpL p p < 0 := cmpL_irr
    rw [List.countP_cons]
    rcases List.mem_cons.1 hx with rfl | hxt
    · have h0 : t.countP f = 0 := List.countP_eq_zero.2 fun y hy hfy => by
        have e := (hf y (List.mem_cons_of_mem _ hy)).1 hfy
        have := h.1 y hy
        rw [e] at this
        exact hirr _ this
      rw [h0, if_pos ((hf x List.mem_cons_self).2 rfl)]
    · have hax : f a = false := by
        cases hfa : f a with
        | false => rfl
        | true =>
          have e := (hf a List.mem_cons_self).1 hfa
          have := h.1 x hxt
          rw [e] at this
          exact absurd this (hirr _)
      rw [ih h.2 hxt (fun y hy => hf y (List.mem_cons_of_mem _ hy)), hax]
      simp
theorem map_count {ps : List (List Nat)} {x : ByteArray} : cntW x (ps.map txt) = ps.countP (fun p => wi x (txt p)) := by unfold cntW; rw [List.countP_map]; rfl
/-- the leaves within a code cover it -/
theorem cov_leaves {l : List ByteArray} {u : ByteArray} (h : kn l u = true) : cov l u (selK l u (lvf l u)) = true := by
  obtain ⟨ps, q, rfl, hp, rfl, hq, hne⟩ := kn_parts h
  unfold cov
  rw [h, kn_leaves hp hq h, Bool.true_and, Bool.and_eq_true]
  refine ⟨List.all_eq_true.2 fun s hs => ?_, List.all_eq_true.2 fun x hx => decide_eq_true ?_⟩
  · obtain ⟨p, hp1, rfl⟩ := List.mem_map.1 hs
    obtain ⟨h1, h2, _⟩ := mem_Lv.1 hp1
    rw [wi_parts hp h1 hq, decide_eq_true h2, (Lib.containsS_iff _ _).2 (List.mem_map_of_mem h1)]
    rfl
  · obtain ⟨p, hp1, rfl⟩ := List.mem_map.1 hx
    obtain ⟨h1, h2, h3⟩ := mem_Lv.1 hp1
    rw [map_count]
    refine count_one (hp.2.1.sublist (List.filter_sublist ..)) hp1 fun y hy => ?_
    obtain ⟨g1, _, g3⟩ := mem_Lv.1 hy
    rw [wi_parts hp h1 (.inr g1), decide_eq_true_iff]
    exact ⟨fun k => (g3 p h1 k).symm, fun k => by rw [k]; exact List.prefix_refl _⟩
/-- the codes of the first level cover all -/
theorem cov_kids {l : List ByteArray} (h : kn l emp = true) : cov l emp (selK l emp (chf l emp)) = true := by
  obtain ⟨ps, q, rfl, hp, hqe, hq, hne⟩ := kn_parts h
  have hk := h
  rw [show emp = txt [] from rfl] at hk ⊢
  unfold cov
  rw [hk, kn_leaves hp (.inl rfl) hk, kn_kids hp (.inl rfl) hk, Bool.true_and, Bool.and_eq_true]
  refine ⟨List.all_eq_true.2 fun s hs => ?_, List.all_eq_true.2 fun x hx => decide_eq_true ?_⟩
  · obtain ⟨p, hp1, rfl⟩ := List.mem_map.1 hs
    obtain ⟨h1, h2⟩ := mem_Kd.1 hp1
    rw [wi_parts hp h1 (.inl rfl), decide_eq_true (List.nil_prefix), (Lib.containsS_iff _ _).2 (List.mem_map_of_mem h1)]
    rfl
  · obtain ⟨p, hp1, rfl⟩ := List.mem_map.1 hx
    obtain ⟨h1, h2, h3⟩ := mem_Lv.1 hp1
    rw [map_count]
    have hl1 := (hp.1 p h1).1
    have ht : p.take 1 ∈ Kd ps [] := mem_Kd.2 ⟨hp.up (p.length - 1) p h1 1 (by omega) (Nat.le_refl _), by apply List.eq_nil_of_length_eq_zero; rw [List.length_dropLast, List.length_take]; omega⟩
    refine count_one (hp.2.1.sublist (List.filter_sublist ..)) ht fun y hy => ?_
    obtain ⟨g1, g2⟩ := mem_Kd.1 hy
    have hy1 := (hp.1 y g1).1
    have hyl : y.length = 1 := by have := congrArg List.length g2; rw [List.length_dropLast] at this; simp at this; omega
    rw [wi_parts hp h1 (.inr g1), decide_eq_true_iff]
    refine ⟨fun k => ?_, fun k => by rw [k]; exact List.take_prefix _ _⟩
    have e := List.prefix_iff_eq_take.1 k
    rw [hyl] at e
    exact e
end Go.Proofs.YtkodfmpaeemaiaaDoor.C6
