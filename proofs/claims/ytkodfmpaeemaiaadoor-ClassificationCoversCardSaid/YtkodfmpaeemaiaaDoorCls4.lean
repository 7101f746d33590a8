import Derived.Test.YtkodfmpaeemaiaaDoorCls2
import Derived.Test.YtkodfmpaeemaiaaDoorClsS
/- Package classification: partsOf, Level, Parent, Path. -/
namespace Go.Proofs.YtkodfmpaeemaiaaDoor.C6
open Go.RowKit Go.Sort

theorem ParPost.cases {s : ByteArray} {w : World} {e : Ending} {w' : World} (h : ParPost s w e w') :
    (∃ p ao cap, P s = some p ∧ Pts p ∧ s = txt p ∧ e = .returned (.tuple #[.slice ao p.length cap, .int .i64 0]) ∧ RdN w' ao cap p ∧ (0 < p.length → ∀ b o, ao = some ⟨b, o, none⟩ → w.heap.size ≤ b) ∧ Below w.heap.size w w') ∨
      (P s = none ∧ e = .returned (.tuple #[.slice none 0 0, .int .i64 60]) ∧ Below w.heap.size w w') := by
  obtain ⟨⟨p, ao, cap, hp, hs, he, hr, hf⟩ | ⟨hno, he⟩, hb⟩ := h
  · exact .inl ⟨p, ao, cap, by rw [hs, P_txt hp], hp, hs, he, hr, hf, hb⟩
  · exact .inr ⟨P_none hno, he, hb⟩

/-- the parts of a code, or none of the empty text -/
def PoPost (s : ByteArray) (w : World) (e : Ending) (w' : World) : Prop :=
  ∃ p ao cap b, e = .returned (.tuple #[.slice ao p.length cap, .bool b]) ∧ RdN w' ao cap p ∧ (0 < p.length → ∀ b o, ao = some ⟨b, o, none⟩ → w.heap.size ≤ b) ∧ Below w.heap.size w w' ∧ ((b = true ∧ PO s = some p) ∨ (b = false ∧ PO s = none ∧ p = []))
theorem ne_emp {s : ByteArray} (h : s ≠ emp) : s.toList.isEmpty = false := by
  cases hl : s.toList with
  | nil => exact absurd (ba_ext (by rw [← ByteArray.toList_eq, hl])) h
  | cons a l => rfl
set_option maxHeartbeats 2000000 in
theorem partsOf_v (s : ByteArray) (w : World) (hev : ErrV w) : Calls Tryd.prog 46 #[.string s] w (PoPost s w) := by
  by_cases he : s = emp
  · subst he
    go_enter Tryd.func46, Tryd.ntmps46
    go_wp2_with fail
    go_ret2
    exact ⟨[], none, 0, true, rfl, RdV.nil _, fun h => by simp at h, Below.refl _ _, .inl ⟨rfl, PO_emp⟩⟩
  · have ht := ne_emp he
    have HPO : Hid (PO s = P s) := PO_P he
    clear he
    go_enter Tryd.func46, Tryd.ntmps46
    go_wp2_with fail
    refine (Parse_v s _ hev).mono ?_; rintro e w1 h
    rcases h.cases with ⟨p, ao, cap, hP, _, _, rfl, hr, hf, hb⟩ | ⟨hP, rfl, hb⟩
    · have HE : Hid (PoPost s w (.returned (.tuple #[.slice ao p.length cap, .bool true])) w1) := ⟨p, ao, cap, true, rfl, hr, hf, hb, .inl ⟨rfl, by rw [HPO.out, hP]⟩⟩
      clear hP hr hf hb h
      go_wp2_with fail
      go_ret2
      exact HE.out
    · have HE : Hid (PoPost s w (.returned (.tuple #[.slice none 0 0, .bool false])) w1) := ⟨[], none, 0, false, rfl, RdV.nil _, fun h => by simp at h, hb, .inr ⟨rfl, by rw [HPO.out, hP], rfl⟩⟩
      clear hP hb h
      go_wp2_with fail
      go_ret2
      exact HE.out

set_option maxHeartbeats 2000000 in
theorem Level_v (s : ByteArray) (w : World) (hev : ErrV w) : Calls Tryd.prog 28 #[.string s] w fun e w' => e = .returned (.int .i64 (lev s)) ∧ Below w.heap.size w w' := by
  go_enter Tryd.func28, Tryd.ntmps28
  go_wp2_with fail
  refine (partsOf_v s _ hev).mono ?_; rintro e w1 ⟨p, ao, cap, b, rfl, hr, hf, hb, h⟩
  rcases h with ⟨rfl, hP⟩ | ⟨rfl, hP, rfl⟩
  · have HL : Hid ((p.length : Int) = lev s) := by unfold Hid lev; rw [hP]
    clear hP hr hf
    go_wp2_with fail
    go_ret
    exact ⟨ret_i64 HL.out, hb⟩
  · have HL : Hid ((-1 : Int) = lev s) := by unfold Hid lev; rw [hP]
    clear hP hr hf
    go_wp2_with fail
    go_ret
    exact ⟨ret_i64 HL.out, hb⟩

theorem snoc_of {p : List Nat} (h : 1 ≤ p.length) : ∃ q n, p = q ++ [n] := ⟨p.dropLast, p.getLast (by intro e; rw [e] at h; simp at h), (List.dropLast_concat_getLast _).symm⟩
theorem cut_txt {q : List Nat} (n : Nat) (hq : q ≠ []) : (txt (q ++ [n])).extract 0 (cod q).length = txt q := by
  apply ba_ext
  rw [txt_list, Lib.extract_from_zero, txt_list, cod_append _ hq, List.take_left]
theorem cut_zero (s : ByteArray) : s.extract 0 0 = emp := by
  apply ba_ext
  rw [Lib.extract_from_zero]
  rfl
set_option maxHeartbeats 4000000 in
theorem Parent_v (s : ByteArray) (w : World) (hev : ErrV w) : Calls Tryd.prog 27 #[.string s] w fun e w' => e = .returned (.tuple #[.string (par s).1, .bool (par s).2]) ∧ Below w.heap.size w w' := by
  go_enter Tryd.func27, Tryd.ntmps27
  go_wp2_with fail
  refine (Parse_v s _ hev).mono ?_; rintro e w1 h
  rcases h.cases with ⟨p, ao, cap, hP, hp, hs, rfl, hr, hf, hb⟩ | ⟨hP, rfl, hb⟩
  · obtain ⟨q, n, rfl⟩ := snoc_of hp.1
    have HPar : Hid (par s = (txt q, true)) := by unfold Hid par; rw [hP]; simp
    have hsz : s.size ≤ 14 := by rw [hs, txt_size]; exact (cod_len hp).2
    have HLI := Lib.hid (fun w => Tryd.strings_LastIndex_one s ⟨#[46]⟩ rfl (by omega) w)
    have e46 : (((⟨#[46]⟩ : ByteArray)[0]'(by decide)).toNat : Int) = 46 := rfl
    unfold Hid at HLI
    rw [e46] at HLI
    by_cases hq : q = []
    · subst hq
      have hl : Lib.lastIndexByte s 46 = -1 := by rw [hs]; exact last_one (by have := hp.2.2 n (by simp); omega)
      have HX : Hid (Ending.returned (.tuple #[.string (s.extract 0 0), .bool true]) = .returned (.tuple #[.string (par s).1, .bool (par s).2])) := by unfold Hid; rw [HPar.out, cut_zero]; rfl
      rw [hl] at HLI
      have HI := Lib.hid HLI
      clear hP hp hs hr hf h HLI hl e46
      go_wp2_with fail
      refine (HI.out _).mono ?_; rintro e w2 ⟨rfl, rfl⟩
      go_wp2_with fail
      go_ret2
      exact ⟨HX.out, hb⟩
    · obtain ⟨k, hk⟩ : ∃ k, k = (cod q).length := ⟨_, rfl⟩
      have hl : Lib.lastIndexByte s 46 = (k : Int) := by rw [hs, hk]; exact last_cod hq hp.2.2
      have hks : k ≤ s.size := by rw [hs, txt_size, cod_append _ hq, List.length_append, hk]; omega
      have hcut : s.extract 0 k = txt q := by rw [hs, hk]; exact cut_txt n hq
      have HX : Hid (Ending.returned (.tuple #[.string (s.extract 0 k), .bool true]) = .returned (.tuple #[.string (par s).1, .bool (par s).2])) := by unfold Hid; rw [HPar.out, hcut]
      clear hcut
      have hmx : max 0 (k : Int) = (k : Int) := by omega
      rw [hl] at HLI
      have HI := Lib.hid HLI
      clear hP hp hs hr hf h HLI hl e46 hk
      go_wp2_with fail
      refine (HI.out _).mono ?_; rintro e w2 ⟨rfl, rfl⟩
      go_wp2_with fail
      go_ret2
      exact ⟨HX.out, hb⟩
  · have HX : Hid (Ending.returned (.tuple #[.string emp, .bool false]) = .returned (.tuple #[.string (par s).1, .bool (par s).2])) := by unfold Hid par; rw [hP]
    clear hP h
    go_wp2_with fail
    go_ret2
    exact ⟨HX.out, hb⟩

theorem par_txt {q : List Nat} {n : Nat} (h : Pts (q ++ [n])) : par (txt (q ++ [n])) = (txt q, true) := by unfold par; rw [P_txt h]; simp
theorem par_none {s : ByteArray} (h : P s = none) : par s = (emp, false) := by unfold par; rw [h]
theorem own_mono {w : World} {base base' n size : Nat} {e : TypeId} {v : Value} {xs : List Value} (h : w.ownsRow base e size v n xs) (hb : base' ≤ base) : w.ownsRow base' e size v n xs := by
  refine ⟨h.1, ?_⟩
  rcases h.2 with hn | ⟨g, cap, cur, h1, h2, h3⟩
  · exact .inl hn
  · exact .inr ⟨g, cap, cur, h1, Nat.le_trans hb h2, h3⟩
end Go.Proofs.YtkodfmpaeemaiaaDoor.C6
