import Derived.Test.YtkedgkfdmdlhoaaDoorCls2
import Derived.Test.YtkedgkfdmdlhoaaDoorClsS
/- Package classification: partsOf, Level, Parent, Path. -/
namespace Go.Proofs.YtkedgkfdmdlhoaaDoor.C6
open Go.RowKit Go.Sort

theorem ParPost.cases {s : ByteArray} {w : World} {e : Ending} {w' : World} (h : ParPost s w e w') :
    (∃ p ao cap, P s = some p ∧ Pts p ∧ s = txt p ∧ e = .returned (.tuple #[.slice ao p.length cap, .int .i64 0]) ∧ RdN w' ao cap p ∧ (0 < p.length → ∀ b o, ao = some ⟨b, o, none⟩ → w.heap.size ≤ b) ∧ Below w.heap.size w w') ∨
      (P s = none ∧ e = .returned (.tuple #[.slice none 0 0, .int .i64 60]) ∧ Below w.heap.size w w') := by
  obtain ⟨⟨p, ao, cap, hp, hs, he, hr, hf⟩ | ⟨hno, he⟩, hb⟩ := h
  · exact .inl ⟨p, ao, cap, by rw [hs, P_txt hp], hp, hs, he, hr, hf, hb⟩
  · exact .inr ⟨P_none hno, he, hb⟩

/-- the parts of a code, or none of the empty text -/
def PoPost (s : ByteArray) (w : World) (e : Ending) (w' : World) : Prop :=
  ∃ p ao cap b, e = .returned (.tuple #[.slice ao p.length cap, .bool b]) ∧ RdN w' ao cap p ∧ (0 < p.length → ∀ b o, ao = some ⟨b, o, none⟩ → w.heap.size ≤ b) ∧ Below w.heap.size w w' ∧ ((b = true ∧ PO s = some p) ∨ (b = false ∧ PO s = none ∧ p = []))
theorem ne_emp {s : ByteArray} (h : s ≠ emp) : s.toList.isEmpty = false := by
  cases hl : s.toList with
  | nil => exact absurd (ba_ext (by rw [← ByteArray.toList_eq, hl])) h
  | cons a l => rfl
set_option maxHeartbeats 2000000 in
theorem partsOf_v (s : ByteArray) (w : World) (hev : ErrV w) : Calls Tryd.prog 33 #[.string s] w (PoPost s w) := by
  by_cases he : s = emp
  · subst he
    go_enter Tryd.func33, Tryd.ntmps33
    go_wp2_with fail
    go_ret2
    exact ⟨[], none, 0, true, rfl, RdV.nil _, fun h => by simp at h, Below.refl _ _, .inl ⟨rfl, PO_emp⟩⟩
  · have ht := ne_emp he
    have HPO : Hid (PO s = P s) := PO_P he
    clear he
    go_enter Tryd.func33, Tryd.ntmps33
    go_wp2_with fail
    refine (Parse_v s _ hev).mono ?_; rintro e w1 h
    rcases h.cases with ⟨p, ao, cap, hP, _, _, rfl, hr, hf, hb⟩ | ⟨hP, rfl, hb⟩
    · have HE : Hid (PoPost s w (.returned (.tuple #[.slice ao p.length cap, .bool true])) w1) := ⟨p, ao, cap, true, rfl, hr, hf, hb, .inl ⟨rfl, by rw [HPO.out, hP]⟩⟩
      clear hP hr hf hb h
      go_wp2_with fail
      go_ret2
      exact HE.out
    · have HE : Hid (PoPost s w (.returned (.tuple #[.slice none 0 0, .bool false])) w1) := ⟨[], none, 0, false, rfl, RdV.nil _, fun h => by simp at h, hb, .inr ⟨rfl, by rw [HPO.out, hP], rfl⟩⟩
      clear hP hb h
      go_wp2_with fail
      go_ret2
      exact HE.out

set_option maxHeartbeats 2000000 in
theorem Level_v (s : ByteArray) (w : World) (hev : ErrV w) : Calls Tryd.prog 22 #[.string s] w fun e w' => e = .returned (.int .i64 (lev s)) ∧ Below w.heap.size w w' := by
  go_enter Tryd.func22, Tryd.ntmps22
  go_wp2_with fail
  refine (partsOf_v s _ hev).mono ?_; rintro e w1 ⟨p, ao, cap, b, rfl, hr, hf, hb, h⟩
  rcases h with ⟨rfl, hP⟩ | ⟨rfl, hP, rfl⟩
  · have HL : Hid ((p.length : Int) = lev s) := by unfold Hid lev; rw [hP]
    clear hP hr hf
    go_wp2_with fail
    go_ret
    exact ⟨ret_i64 HL.out, hb⟩
  · have HL : Hid ((-1 : Int) = lev s) := by unfold Hid lev; rw [hP]
    clear hP hr hf
    go_wp2_with fail
    go_ret
    exact ⟨ret_i64 HL.out, hb⟩

theorem snoc_of {p : List Nat} (h : 1 ≤ p.length) : ∃ q n, p = q ++ [n] := ⟨p.dropLast, p.getLast (by intro e; rw [e] at h; simp at h), (List.dropLast_concat_getLast _).symm⟩
theorem cut_txt {q : List Nat} (n : Nat) (hq : q ≠ []) : (txt (q ++ [n])).extract 0 (cod q).length = txt q := by
  apply ba_ext
  rw [txt_list, Lib.extract_from_zero, txt_list, cod_append _ hq, List.take_left]
theorem cut_zero (s : ByteArray) : s.extract 0 0 = emp := by
  apply ba_ext
  rw [Lib.extract_from_zero]
  rfl
theorem par_txt {q : List Nat} {n : Nat} (h : Pts (q ++ [n])) : par (txt (q ++ [n])) = (txt q, true) := by unfold par; rw [P_txt h]; simp
theorem par_none {s : ByteArray} (h : P s = none) : par s = (emp, false) := by unfold par; rw [h]
theorem own_mono {w : World} {base base' n size : Nat} {e : TypeId} {v : Value} {xs : List Value} (h : w.ownsRow base e size v n xs) (hb : base' ≤ base) : w.ownsRow base' e size v n xs := by
  refine ⟨h.1, ?_⟩
  rcases h.2 with hn | ⟨g, cap, cur, h1, h2, h3⟩
  · exact .inl hn
  · exact .inr ⟨g, cap, cur, h1, Nat.le_trans hb h2, h3⟩
end Go.Proofs.YtkedgkfdmdlhoaaDoor.C6
