import Derived.Test.YtejcdgkcmbmbmaaDoorCls10
/- The reference of package classification: Common, Compare. -/
namespace Go.Proofs.YtejcdgkcmbmbmaaDoor.C6
open Go.RowKit Go.Sort

/-- how many parts a code has in common with another text -/
noncomputable def ck (a b : ByteArray) : Nat := match P a, PO b with | some p, some q => (lcp p q).length | _, _ => 0
theorem wi_pref {a b : ByteArray} {p : List Nat} (h : P a = some p) {i : Nat} (hi : i < p.length) : wi b (txt (p.take (i + 1))) = decide (i + 1 ≤ ck a b) := by
  have hp := (P_some h).1
  unfold wi ck
  rw [PO_txt (hp.2.2.take _) (by rw [List.length_take]; have := hp.2.1; omega), h]
  cases hb : PO b with
  | none => simp
  | some q =>
    simp only
    by_cases hc : i + 1 ≤ (lcp p q).length
    · rw [decide_eq_true hc, decide_eq_true ((take_pre hi).2 hc)]
    · rw [decide_eq_false hc, decide_eq_false (fun e => hc ((take_pre hi).1 e))]
theorem com_ck {a b : ByteArray} {p : List Nat} (h : P a = some p) : com a b = txt (p.take (ck a b)) := by
  unfold com ck
  rw [PO_of_P h, h]
  cases hb : PO b with
  | none => rfl
  | some q =>
    simp only
    rw [← lcp_take]
theorem com_nil {a b : ByteArray} (h : P a = none) : com a b = emp := by
  unfold com
  by_cases ha : a = emp
  · subst ha
    rw [PO_emp]
    cases hb : PO b with
    | none => rfl
    | some q => simp [lcp, txt, cod]
  · rw [PO_P ha, h]

set_option maxHeartbeats 4000000 in
theorem rCommon_v (a b : ByteArray) (ha : a.size ≤ 1000) (hb : b.size ≤ 1000) (w : World) : Calls Tryd.prog 34 #[.string a, .string b] w fun e w' => e = .returned (.string (com a b)) ∧ Below w.heap.size w w' := by
  have hpl := pth_len a
  obtain ⟨n, hn⟩ : ∃ n, n = (pth a).length := ⟨_, rfl⟩
  have hn5 : n ≤ 5 := by omega
  have HN := Lib.hid hn
  clear hpl hn
  cases hP : P a with
  | none =>
    have HX : Hid (emp = com a b) := (com_nil hP).symm
    have hn0 : n = 0 := by rw [HN.out, pth_none hP]; rfl
    subst hn0
    clear hP
    go_enter Tryd.func34, Tryd.ntmps34
    go_wp2_with fail
    refine (rPath_v a ha _).mono ?_; rintro e w1 ⟨v, rfl, hown, b1⟩
    obtain ⟨ao, cap, rfl, hr, _⟩ := RdV.of_row hown
    rw [strs_length, ← HN.out]
    clear hown hr
    go_wp2_with fail
    go_loopw [5, 11] (fun s5 s11 wr => s5 = .string emp ∧ s11 = .int .i64 0 ∧ wr = w1) (fun _ _ _ => 0)
    case atStart => exact ⟨rfl, rfl, rfl⟩
    case round =>
      obtain ⟨rfl, rfl, rfl⟩ := hrel
      go_wp2_with fail
      go_ret
      exact ⟨ret_str HX.out, b1⟩
  | some p =>
    have HK : Hid (com a b = txt (p.take (ck a b))) := com_ck hP
    have HW : Hid (∀ i, i < p.length → wi b (txt (p.take (i + 1))) = decide (i + 1 ≤ ck a b)) := fun i hi => wi_pref hP hi
    have hpth : pth a = prefs p := pth_some hP
    have hnp : n = p.length := by rw [HN.out, hpth, prefs_length]
    have HNP := Lib.hid hnp
    obtain ⟨k, hk⟩ : ∃ k, k = ck a b := ⟨_, rfl⟩
    unfold Hid at HK HW
    rw [← hk] at HK HW
    have HK2 := Lib.hid HK
    have HW2 := Lib.hid HW
    have HPT := Lib.hid hpth
    clear hP hpth hnp hk HK HW
    go_enter Tryd.func34, Tryd.ntmps34
    go_wp2_with fail
    refine (rPath_v a ha _).mono ?_; rintro e w1 ⟨v, rfl, hown, b1⟩
    have HB1 := Lib.hid b1
    obtain ⟨ao, cap, rfl, hr, _⟩ := RdV.of_row hown
    rw [strs_length, ← HN.out]
    rw [HPT.out] at hr
    have HR := Lib.hid hr
    clear b1 hown hr
    go_wp2_with fail
    go_loopw [5, 11] (fun s5 s11 wr => ∃ (i : Nat) (T : ByteArray), i ≤ n ∧ s11 = .int .i64 (i : Int) ∧ s5 = .string T ∧ Hid (T = txt (p.take (min i k))) ∧ Hid (Below w1.heap.size w1 wr)) (fun _ s11 _ => n - (intOf s11).toNat)
    case atStart => exact ⟨0, emp, by omega, rfl, rfl, by unfold Hid; rw [Nat.zero_min]; rfl, Below.refl _ _⟩
    case round =>
      obtain ⟨i, T, hin, rfl, rfl, hT, hbl⟩ := hrel
      have hBB : Hid (Below w.heap.size w wr) := HB1.out.trans (hbl.out.mono HB1.out.size)
      by_cases hlt : i < n
      · have hlt2 : (i : Int) < (n : Int) := by omega
        have hip : i < p.length := by have := HNP.out; omega
        obtain ⟨bl, o, rfl, hc⟩ := (HR.out.below hbl.out).atS (i := i) (by rw [prefs_length]; exact hip)
        rw [show (prefs p).getD i ByteArray.empty = txt (p.take (i + 1)) from prefs_get hip] at hc
        have hw := HW2.out i hip
        have hWV := fun w => rWithin_v b (txt (p.take (i + 1))) hb w
        rw [hw] at hWV
        obtain ⟨S, hS⟩ : ∃ S, S = txt (p.take (i + 1)) := ⟨_, rfl⟩
        rw [← hS] at hc hWV
        by_cases hk : i + 1 ≤ k
        · rw [decide_eq_true hk] at hWV
          have HWV := Lib.hid hWV
          have HS : Hid (S = txt (p.take (min (i + 1) k))) := by unfold Hid; rw [hS, Nat.min_eq_left hk]
          clear hw hWV hS hk
          go_wp2_with fail
          refine (HWV.out _).mono ?_; rintro e w2 ⟨rfl, b2⟩
          have HB2 := Lib.hid (keep hbl.out b2)
          clear b2
          go_wp2_with fail
          go_roundw
          case rel => exact ⟨i + 1, S, by omega, by go_num, rfl, HS, HB2⟩
          case measure => simp [intOf]; omega
        · rw [decide_eq_false hk] at hWV
          have HWV := Lib.hid hWV
          have HS : Hid (T = txt (p.take (min (i + 1) k))) := by unfold Hid; rw [hT.out, Nat.min_eq_right (by omega), Nat.min_eq_right (by omega)]
          clear hw hWV hS hk
          go_wp2_with fail
          refine (HWV.out _).mono ?_; rintro e w2 ⟨rfl, b2⟩
          have HB2 := Lib.hid (keep hbl.out b2)
          clear b2
          go_wp2_with fail
          go_roundw
          case rel => exact ⟨i + 1, T, by omega, by go_num, rfl, HS, HB2⟩
          case measure => simp [intOf]; omega
      · obtain rfl : i = n := by omega
        have hlt2 : ¬ (i : Int) < (i : Int) := by omega
        have HX : Hid (T = com a b) := by
          unfold Hid
          rw [hT.out, HK2.out]
          congr 1
          rw [HNP.out]
          by_cases h : p.length ≤ k
          · rw [Nat.min_eq_left h, List.take_length, List.take_of_length_le h]
          · rw [Nat.min_eq_right (by omega)]
        go_wp2_with fail
        go_ret
        exact ⟨ret_str HX.out, hBB.out⟩

set_option maxHeartbeats 1000000 in
theorem order_v (a b : Int) (w : World) : Calls Tryd.prog 54 #[.int .i64 a, .int .i64 b] w fun e w' => e = .returned (.int .i64 (Lib.compareInt a b)) ∧ w = w' := by
  have HX : Hid (Lib.compareInt a b = if a < b then -1 else if a > b then 1 else 0) := rfl
  by_cases h1 : a < b
  · have HY : Hid ((-1 : Int) = Lib.compareInt a b) := by unfold Hid; rw [HX.out, if_pos h1]
    clear HX
    go_enter Tryd.func54, Tryd.ntmps54
    go_wp2_with fail
    go_ret
    exact ⟨ret_i64 HY.out, rfl⟩
  · by_cases h2 : b < a
    · have HY : Hid ((1 : Int) = Lib.compareInt a b) := by unfold Hid; rw [HX.out, if_neg h1, if_pos h2]
      clear HX
      go_enter Tryd.func54, Tryd.ntmps54
      go_wp2_with fail
      go_ret
      exact ⟨ret_i64 HY.out, rfl⟩
    · have HY : Hid ((0 : Int) = Lib.compareInt a b) := by unfold Hid; rw [HX.out, if_neg h1, if_neg h2]
      clear HX
      go_enter Tryd.func54, Tryd.ntmps54
      go_wp2_with fail
      go_ret
      exact ⟨ret_i64 HY.out, rfl⟩
/-- 0 for the empty text, 1 for codes, 2 for others -/
noncomputable def rk (s : ByteArray) : Nat := match PO s with | some [] => 0 | some (_ :: _) => 1 | none => 2
theorem rk_emp : rk emp = 0 := by unfold rk; rw [PO_emp]
theorem rk_code {s : ByteArray} {p : List Nat} (h : P s = some p) : rk s = 1 := by
  have := (P_some h).1.1
  unfold rk
  rw [PO_of_P h]
  cases p with
  | nil => simp at this
  | cons a p => rfl
theorem rk_other {s : ByteArray} (h : PO s = none) : rk s = 2 := by unfold rk; rw [h]
theorem rank_v (s : ByteArray) (hs : s.size ≤ 1000) (w : World) : Calls Tryd.prog 55 #[.string s] w fun e w' => e = .returned (.int .i64 (rk s : Int)) ∧ Below w.heap.size w w' := by
  by_cases he : s = emp
  · subst he
    have HX : Hid ((0 : Int) = (rk emp : Int)) := by unfold Hid; rw [rk_emp]; rfl
    go_enter Tryd.func55, Tryd.ntmps55
    go_wp2_with fail
    go_ret
    exact ⟨ret_i64 HX.out, Below.refl _ _⟩
  · have ht := ne_emp he
    have hI := fun w => Is_v s hs w
    cases hP : P s with
    | none =>
      have HX : Hid ((2 : Int) = (rk s : Int)) := by unfold Hid; rw [rk_other (by rw [PO_P he, hP])]; rfl
      rw [hP] at hI
      have HI := Lib.hid hI
      clear hI hP he
      go_enter Tryd.func55, Tryd.ntmps55
      go_wp2_with fail
      refine (HI.out _).mono ?_; rintro e w1 ⟨rfl, b1⟩
      have HB1 := Lib.hid b1
      clear b1
      go_wp2_with fail
      go_ret
      exact ⟨ret_i64 HX.out, HB1.out⟩
    | some p =>
      have HX : Hid ((1 : Int) = (rk s : Int)) := by unfold Hid; rw [rk_code hP]; rfl
      rw [hP] at hI
      have HI := Lib.hid hI
      clear hI hP he
      go_enter Tryd.func55, Tryd.ntmps55
      go_wp2_with fail
      refine (HI.out _).mono ?_; rintro e w1 ⟨rfl, b1⟩
      have HB1 := Lib.hid b1
      clear b1
      go_wp2_with fail
      go_ret
      exact ⟨ret_i64 HX.out, HB1.out⟩
end Go.Proofs.YtejcdgkcmbmbmaaDoor.C6
