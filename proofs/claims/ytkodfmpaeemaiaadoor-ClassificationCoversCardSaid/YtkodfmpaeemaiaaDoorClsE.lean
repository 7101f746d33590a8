import Derived.Test.YtkodfmpaeemaiaaDoorClsD
/- The mathematics of leaves and children over a valid list of parts. -/
namespace Go.Proofs.YtkodfmpaeemaiaaDoor.C6
open Go.RowKit Go.Sort

theorem cmpL_irr (p : List Nat) : ¬ cmpL p p < 0 := by have := (cmpL_zero p p).2 rfl; omega
theorem sorted_ext : ∀ (a b : List (List Nat)), a.Pairwise (fun p q => cmpL p q < 0) → b.Pairwise (fun p q => cmpL p q < 0) → (∀ x, x ∈ a ↔ x ∈ b) → a = b
  | [], b, _, _, h => by
    cases b with
    | nil => rfl
    | cons y b => exact absurd ((h y).2 (List.mem_cons_self ..)) (by simp)
  | x :: a, [], _, _, h => absurd ((h x).1 (List.mem_cons_self ..)) (by simp)
  | x :: a, y :: b, ha, hb, h => by
    obtain ⟨ha1, ha2⟩ := List.pairwise_cons.1 ha
    obtain ⟨hb1, hb2⟩ := List.pairwise_cons.1 hb
    have hxy : x = y := by
      rcases List.mem_cons.1 ((h x).1 (List.mem_cons_self ..)) with e | e
      · exact e
      · rcases List.mem_cons.1 ((h y).2 (List.mem_cons_self ..)) with e' | e'
        · exact e'.symm
        · have h1 := hb1 x e
          have h2 := ha1 y e'
          have := cmpL_anti x y
          omega
    subst hxy
    rw [sorted_ext a b ha2 hb2 (fun z => ⟨fun hz => ?_, fun hz => ?_⟩)]
    · rcases List.mem_cons.1 ((h z).1 (List.mem_cons_of_mem _ hz)) with e | e
      · rw [e] at hz; exact absurd (ha1 x hz) (cmpL_irr x)
      · exact e
    · rcases List.mem_cons.1 ((h z).2 (List.mem_cons_of_mem _ hz)) with e | e
      · rw [e] at hz; exact absurd (hb1 x hz) (cmpL_irr x)
      · exact e
/-- what lies between parts and what is below them is below them -/
theorem between : ∀ (p a r : List Nat), cmpL p a ≤ 0 → cmpL a (p ++ r) ≤ 0 → p <+: a
  | [], a, r, _, _ => List.nil_prefix
  | x :: p, [], r, h, _ => by simp [cmpL] at h
  | x :: p, y :: a, r, h1, h2 => by
    simp only [cmpL, List.cons_append] at h1 h2
    by_cases hxy : x < y
    · rw [if_neg (by omega), if_pos hxy] at h2
      omega
    · by_cases hyx : y < x
      · rw [if_neg hxy, if_pos hyx] at h1
        omega
      · obtain rfl : x = y := by omega
        rw [if_neg hxy, if_neg hxy] at h1 h2
        exact List.cons_prefix_cons.2 ⟨rfl, between p a r h1 h2⟩
/-- two of one length: what is below the lesser is before what is below the greater -/
theorem apart : ∀ (p q a b : List Nat), p.length = q.length → cmpL p q < 0 → cmpL (p ++ a) (q ++ b) < 0
  | [], [], a, b, _, h => absurd h (cmpL_irr [])
  | [], _ :: _, _, _, h, _ => by cases h
  | _ :: _, [], _, _, h, _ => by cases h
  | x :: p, y :: q, a, b, hl, h => by
    simp only [cmpL, List.cons_append] at h ⊢
    by_cases hxy : x < y
    · rw [if_pos hxy]; omega
    · by_cases hyx : y < x
      · rw [if_neg hxy, if_pos hyx] at h; omega
      · rw [if_neg hxy, if_neg hyx] at h ⊢
        exact apart p q a b (by simpa using hl) h

/-- no other one is below it -/
def Leaf (ps : List (List Nat)) (p : List Nat) : Prop := ∀ q ∈ ps, p <+: q → q = p
open Classical in
noncomputable def Lv (ps : List (List Nat)) (q : List Nat) : List (List Nat) := ps.filter fun p => decide (q <+: p ∧ Leaf ps p)
open Classical in
noncomputable def Kd (ps : List (List Nat)) (q : List Nat) : List (List Nat) := ps.filter fun p => decide (p.dropLast = q)
theorem mem_Lv {ps : List (List Nat)} {q p : List Nat} : p ∈ Lv ps q ↔ p ∈ ps ∧ q <+: p ∧ Leaf ps p := by unfold Lv; rw [List.mem_filter]; simp
theorem mem_Kd {ps : List (List Nat)} {q p : List Nat} : p ∈ Kd ps q ↔ p ∈ ps ∧ p.dropLast = q := by unfold Kd; rw [List.mem_filter]; simp
/-- every beginning of one of them is one of them -/
theorem VP.up {ps : List (List Nat)} (h : VP ps) : ∀ (n : Nat) (p : List Nat), p ∈ ps → ∀ k, k + n = p.length → 1 ≤ k → p.take k ∈ ps
  | 0, p, hp, k, hk, _ => by rw [List.take_of_length_le (by omega)]; exact hp
  | n + 1, p, hp, k, hk, h1 => by
    have hd : p.dropLast ∈ ps := by
      rcases h.2.2 p hp with h' | h'
      · omega
      · exact h'
    have := VP.up h n p.dropLast hd k (by rw [List.length_dropLast]; omega) h1
    rw [List.dropLast_eq_take, List.take_take, Nat.min_eq_left (by omega)] at this
    exact this
/-- what is below parts is one of their children or below one -/
theorem VP.kid {ps : List (List Nat)} (h : VP ps) {q p : List Nat} (hp : p ∈ ps) (hq : q <+: p) (hne : p ≠ q) : ∃ k ∈ Kd ps q, k <+: p := by
  obtain ⟨r, rfl⟩ := hq
  cases r with
  | nil => exact absurd (List.append_nil q) hne
  | cons x r =>
    refine ⟨q ++ [x], mem_Kd.2 ⟨?_, by simp⟩, ⟨r, by simp⟩⟩
    have := h.up r.length (q ++ x :: r) hp (q.length + 1) (by simp; omega) (by omega)
    rw [List.take_append, List.take_of_length_le (by omega : q.length ≤ q.length + 1)] at this
    simpa using this
theorem VP.leaves {ps : List (List Nat)} (h : VP ps) {q : List Nat} (hk : Kd ps q ≠ []) : Lv ps q = (Kd ps q).flatMap (Lv ps) := by
  have hsub : ∀ f : List Nat → Bool, (ps.filter f).Pairwise (fun p q => cmpL p q < 0) := fun f => h.2.1.sublist (List.filter_sublist ..)
  refine sorted_ext _ _ (hsub _) ?_ (fun x => ?_)
  · refine List.pairwise_flatMap.2 ⟨fun a _ => hsub _, ?_⟩
    refine List.Pairwise.imp_of_mem ?_ (hsub fun p => _)
    intro a b ha hb hab x hx y hy
    obtain ⟨_, ⟨r, rfl⟩, _⟩ := mem_Lv.1 hx
    obtain ⟨_, ⟨s, rfl⟩, _⟩ := mem_Lv.1 hy
    obtain ⟨ha1, ha2⟩ := mem_Kd.1 ha
    obtain ⟨hb1, hb2⟩ := mem_Kd.1 hb
    refine apart a b r s ?_ hab
    have h1 := congrArg List.length (ha2.trans hb2.symm)
    rw [List.length_dropLast, List.length_dropLast] at h1
    have := (h.1 a ha1).1
    have := (h.1 b hb1).1
    omega
  · rw [List.mem_flatMap]
    constructor
    · intro hx
      obtain ⟨h1, h2, h3⟩ := mem_Lv.1 hx
      have hne : x ≠ q := by
        intro e
        obtain ⟨k, hk1⟩ := List.exists_mem_of_ne_nil _ hk
        obtain ⟨hk2, hk3⟩ := mem_Kd.1 hk1
        have := h3 k hk2 (by rw [e, ← hk3]; exact List.dropLast_prefix k)
        have h4 := congrArg List.length (hk3.trans (e.symm.trans this.symm))
        rw [List.length_dropLast] at h4
        have := (h.1 k hk2).1
        omega
      obtain ⟨k, hk1, hk2⟩ := h.kid h1 h2 hne
      exact ⟨k, hk1, mem_Lv.2 ⟨h1, hk2, h3⟩⟩
    · rintro ⟨k, hk1, hx⟩
      obtain ⟨h1, h2, h3⟩ := mem_Lv.1 hx
      obtain ⟨_, hk3⟩ := mem_Kd.1 hk1
      exact mem_Lv.2 ⟨h1, (by rw [← hk3]; exact (List.dropLast_prefix k).trans h2), h3⟩
theorem VP.lone {ps : List (List Nat)} (h : VP ps) {q : List Nat} (hq : q ∈ ps) (hk : Kd ps q = []) : Lv ps q = [q] := by
  refine sorted_ext _ _ (h.2.1.sublist (List.filter_sublist ..)) (List.pairwise_singleton _ _) (fun x => ?_)
  have hall : ∀ x ∈ ps, q <+: x → x = q := fun x hx hp => by
    apply Classical.byContradiction
    intro hne
    obtain ⟨k, hk1, _⟩ := h.kid hx hp hne
    rw [hk] at hk1
    cases hk1
  rw [mem_Lv, List.mem_singleton]
  constructor
  · rintro ⟨h1, h2, _⟩; exact hall x h1 h2
  · rintro rfl; exact ⟨hq, List.prefix_refl _, hall⟩
end Go.Proofs.YtkodfmpaeemaiaaDoor.C6
