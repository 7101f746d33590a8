import Derived.Test.YtkodfmpaeemaiaaDoorCls10
/- The reference of package classification: Common, Compare. -/
namespace Go.Proofs.YtkodfmpaeemaiaaDoor.C6
open Go.RowKit Go.Sort

/-- how many parts a code has in common with another text -/
noncomputable def ck (a b : ByteArray) : Nat := match P a, PO b with | some p, some q => (lcp p q).length | _, _ => 0
theorem wi_pref {a b : ByteArray} {p : List Nat} (h : P a = some p) {i : Nat} (hi : i < p.length) : wi b (txt (p.take (i + 1))) = decide (i + 1 ≤ ck a b) := by
  have hp := (P_some h).1
  unfold wi ck
  rw [PO_txt (hp.2.2.take _) (by rw [List.length_take]; have := hp.2.1; omega), h]
  cases hb : PO b with
  | none => simp
  | some q =>
    simp only
    by_cases hc : i + 1 ≤ (lcp p q).length
    · rw [decide_eq_true hc, decide_eq_true ((take_pre hi).2 hc)]
    · rw [decide_eq_false hc, decide_eq_false (fun e => hc ((take_pre hi).1 e))]
theorem com_ck {a b : ByteArray} {p : List Nat} (h : P a = some p) : com a b = txt (p.take (ck a b)) := by
  unfold com ck
  rw [PO_of_P h, h]
  cases hb : PO b with
  | none => rfl
  | some q =>
    simp only
    rw [← lcp_take]
theorem com_nil {a b : ByteArray} (h : P a = none) : com a b = emp := by
  unfold com
  by_cases ha : a = emp
  · subst ha
    rw [PO_emp]
    cases hb : PO b with
    | none => rfl
    | some q => simp [lcp, txt, cod]
  · rw [PO_P ha, h]

set_option maxHeartbeats 1000000 in
theorem order_v (a b : Int) (w : World) : Calls Tryd.prog 41 #[.int .i64 a, .int .i64 b] w fun e w' => e = .returned (.int .i64 (Lib.compareInt a b)) ∧ w = w' := by
  have HX : Hid (Lib.compareInt a b = if a < b then -1 else if a > b then 1 else 0) := rfl
  by_cases h1 : a < b
  · have HY : Hid ((-1 : Int) = Lib.compareInt a b) := by unfold Hid; rw [HX.out, if_pos h1]
    clear HX
    go_enter Tryd.func41, Tryd.ntmps41
    go_wp2_with fail
    go_ret
    exact ⟨ret_i64 HY.out, rfl⟩
  · by_cases h2 : b < a
    · have HY : Hid ((1 : Int) = Lib.compareInt a b) := by unfold Hid; rw [HX.out, if_neg h1, if_pos h2]
      clear HX
      go_enter Tryd.func41, Tryd.ntmps41
      go_wp2_with fail
      go_ret
      exact ⟨ret_i64 HY.out, rfl⟩
    · have HY : Hid ((0 : Int) = Lib.compareInt a b) := by unfold Hid; rw [HX.out, if_neg h1, if_neg h2]
      clear HX
      go_enter Tryd.func41, Tryd.ntmps41
      go_wp2_with fail
      go_ret
      exact ⟨ret_i64 HY.out, rfl⟩
/-- 0 for the empty text, 1 for codes, 2 for others -/
noncomputable def rk (s : ByteArray) : Nat := match PO s with | some [] => 0 | some (_ :: _) => 1 | none => 2
theorem rk_emp : rk emp = 0 := by unfold rk; rw [PO_emp]
theorem rk_code {s : ByteArray} {p : List Nat} (h : P s = some p) : rk s = 1 := by
  have := (P_some h).1.1
  unfold rk
  rw [PO_of_P h]
  cases p with
  | nil => simp at this
  | cons a p => rfl
theorem rk_other {s : ByteArray} (h : PO s = none) : rk s = 2 := by unfold rk; rw [h]
theorem rank_v (s : ByteArray) (hs : s.size ≤ 1000) (w : World) : Calls Tryd.prog 42 #[.string s] w fun e w' => e = .returned (.int .i64 (rk s : Int)) ∧ Below w.heap.size w w' := by
  by_cases he : s = emp
  · subst he
    have HX : Hid ((0 : Int) = (rk emp : Int)) := by unfold Hid; rw [rk_emp]; rfl
    go_enter Tryd.func42, Tryd.ntmps42
    go_wp2_with fail
    go_ret
    exact ⟨ret_i64 HX.out, Below.refl _ _⟩
  · have ht := ne_emp he
    have hI := fun w => Is_v s hs w
    cases hP : P s with
    | none =>
      have HX : Hid ((2 : Int) = (rk s : Int)) := by unfold Hid; rw [rk_other (by rw [PO_P he, hP])]; rfl
      rw [hP] at hI
      have HI := Lib.hid hI
      clear hI hP he
      go_enter Tryd.func42, Tryd.ntmps42
      go_wp2_with fail
      refine (HI.out _).mono ?_; rintro e w1 ⟨rfl, b1⟩
      have HB1 := Lib.hid b1
      clear b1
      go_wp2_with fail
      go_ret
      exact ⟨ret_i64 HX.out, HB1.out⟩
    | some p =>
      have HX : Hid ((1 : Int) = (rk s : Int)) := by unfold Hid; rw [rk_code hP]; rfl
      rw [hP] at hI
      have HI := Lib.hid hI
      clear hI hP he
      go_enter Tryd.func42, Tryd.ntmps42
      go_wp2_with fail
      refine (HI.out _).mono ?_; rintro e w1 ⟨rfl, b1⟩
      have HB1 := Lib.hid b1
      clear b1
      go_wp2_with fail
      go_ret
      exact ⟨ret_i64 HX.out, HB1.out⟩
end Go.Proofs.YtkodfmpaeemaiaaDoor.C6
