import Derived.Test.YtkodfmpaeemaiaaDoorCls6
/- The reference of package classification: Within, Common, Compare. -/
namespace Go.Proofs.YtkodfmpaeemaiaaDoor.C6
open Go.RowKit Go.Sort

theorem PO_ne {s : ByteArray} {p : List Nat} (h : PO s = some p) (hs : s ≠ emp) : P s = some p := by rw [← PO_P hs]; exact h
theorem mem_prefs {p : List Nat} {a : ByteArray} : a ∈ prefs p ↔ ∃ i, i < p.length ∧ a = txt (p.take (i + 1)) := by
  unfold prefs
  rw [List.mem_map]
  constructor
  · rintro ⟨i, hi, e⟩
    exact ⟨i, by simpa using hi, e.symm⟩
  · rintro ⟨i, hi, e⟩
    exact ⟨i, by simpa using hi, e.symm⟩
theorem wi_mem {s a : ByteArray} {p : List Nat} (h : PO s = some p) (ha : a ≠ emp) : wi s a = true ↔ (a = s ∨ a ∈ pth s) := by
  obtain ⟨hn, h5, hs, hP⟩ := PO_some h
  by_cases hm : a = s ∨ a ∈ pth s
  · refine iff_of_true ?_ hm
    unfold wi
    rw [h]
    rcases hm with rfl | hm
    · rw [h]; simp
    · cases hPs : P s with
      | none => rw [pth_none hPs] at hm; simp at hm
      | some p' =>
        have : p' = p := by have := PO_of_P hPs; rw [h] at this; exact (Option.some.inj this).symm
        subst this
        rw [pth_some hPs] at hm
        obtain ⟨i, hi, e⟩ := mem_prefs.1 hm
        rw [e, PO_txt (hn.take _) (by rw [List.length_take]; omega)]
        simp [List.take_prefix]
  · refine iff_of_false ?_ hm
    unfold wi
    rw [h]
    cases hq : PO a with
    | none => simp
    | some q =>
      simp only
      intro hpre
      have hpre := of_decide_eq_true hpre
      apply hm
      obtain ⟨_, _, ea, hPa⟩ := PO_some hq
      have hqne : q ≠ [] := fun e => ha (by rw [ea, e]; rfl)
      have hpne : p ≠ [] := fun e => by rw [e] at hpre; exact hqne (List.prefix_nil.1 hpre)
      have hPs := (hP hpne).1
      rw [pth_some hPs]
      right
      refine mem_prefs.2 ⟨q.length - 1, ?_, ?_⟩
      · have := hpre.length_le
        have := List.length_pos_iff.2 hqne
        omega
      · have h1 := List.length_pos_iff.2 hqne
        rw [show q.length - 1 + 1 = q.length by omega, ea]
        exact congrArg txt (List.prefix_iff_eq_take.1 hpre)
theorem wi_emp {s : ByteArray} {p : List Nat} (h : PO s = some p) : wi s emp = true := by
  unfold wi
  rw [h, PO_emp]
  simp
theorem wi_none {s a : ByteArray} (h : PO s = none) : wi s a = false := by
  unfold wi
  rw [h]
theorem pth_len (s : ByteArray) : (pth s).length ≤ 5 := by
  cases h : P s with
  | none => rw [pth_none h]; simp
  | some p => rw [pth_some h, prefs_length]; exact (P_some h).1.2.1

set_option maxHeartbeats 4000000 in
theorem rWithin_v (s a : ByteArray) (hs : s.size ≤ 1000) (w : World) : Calls Tryd.prog 37 #[.string s, .string a] w fun e w' => e = .returned (.bool (wi s a)) ∧ Below w.heap.size w w' := by
  cases hPO : PO s with
  | none =>
    have hL := fun w => rLevel_v s hs w
    rw [lev_none hPO] at hL
    have HL := Lib.hid hL
    have HX : Hid (false = wi s a) := (wi_none hPO).symm
    clear hL hPO
    go_enter Tryd.func37, Tryd.ntmps37
    go_wp2_with fail
    refine (HL.out _).mono ?_; rintro e w1 ⟨rfl, b1⟩
    have HB1 := Lib.hid b1
    clear b1
    go_wp2_with fail
    go_ret
    exact ⟨ret_bool HX.out, HB1.out⟩
  | some p =>
    have hL := fun w => rLevel_v s hs w
    rw [lev_some hPO] at hL
    obtain ⟨l, hl⟩ : ∃ l, l = p.length := ⟨_, rfl⟩
    rw [← hl] at hL
    have HL := Lib.hid hL
    by_cases ha : a = emp
    · subst ha
      have HX : Hid (true = wi s emp) := (wi_emp hPO).symm
      clear hL hPO hl
      go_enter Tryd.func37, Tryd.ntmps37
      go_wp2_with fail
      refine (HL.out _).mono ?_; rintro e w1 ⟨rfl, b1⟩
      have HB1 := Lib.hid b1
      clear b1
      go_wp2_with fail
      go_ret
      exact ⟨ret_bool HX.out, HB1.out⟩
    · have hwi := wi_mem hPO ha
      have hae := ne_emp ha
      by_cases has : a = s
      · have HX : Hid (true = wi s a) := (hwi.2 (.inl has)).symm
        have het := eq_text has
        clear hL hPO hl hwi has ha
        go_enter Tryd.func37, Tryd.ntmps37
        go_wp2_with fail
        refine (HL.out _).mono ?_; rintro e w1 ⟨rfl, b1⟩
        have HB1 := Lib.hid b1
        clear b1
        go_wp2_with fail
        go_ret
        exact ⟨ret_bool HX.out, HB1.out⟩
      · have het := ne_text has
        have HW : Hid (wi s a = true ↔ a ∈ pth s) := hwi.trans ⟨fun h => h.resolve_left has, .inr⟩
        have hpl := pth_len s
        obtain ⟨n, hn⟩ : ∃ n, n = (pth s).length := ⟨_, rfl⟩
        have hn5 : n ≤ 5 := by omega
        have HN := Lib.hid hn
        clear hL hPO hl hwi has ha hpl hn
        go_enter Tryd.func37, Tryd.ntmps37
        go_wp2_with fail
        refine (HL.out _).mono ?_; rintro e w1 ⟨rfl, b1⟩
        have HB1 := Lib.hid b1
        clear b1
        go_wp2_with fail
        refine (rPath_v s hs _).mono ?_; rintro e w2 ⟨v, rfl, hown, b2⟩
        have HB2 := Lib.hid (keep HB1.out b2)
        obtain ⟨ao, cap, rfl, hr, _⟩ := RdV.of_row hown
        rw [strs_length, ← HN.out]
        have HR := Lib.hid hr
        clear b2 hown hr
        go_wp2_with fail
        go_loopw [20] (fun s20 wr => ∃ i : Nat, i ≤ n ∧ s20 = .int .i64 (i : Int) ∧ Hid (∀ j, j < i → (pth s).getD j ByteArray.empty ≠ a) ∧ Hid (Below w2.heap.size w2 wr)) (fun s20 _ => n - (intOf s20).toNat)
        case atStart => exact ⟨0, by omega, rfl, fun j hj => by omega, Below.refl _ _⟩
        case round =>
          obtain ⟨i, hin, rfl, hpre, hbl⟩ := hrel
          have hBB : Hid (Below w.heap.size w wr) := HB2.out.trans (hbl.out.mono HB2.out.size)
          by_cases hlt : i < n
          · have hlt2 : (i : Int) < (n : Int) := by omega
            have hil : i < (pth s).length := by have := HN.out; omega
            obtain ⟨b, o, rfl, hc⟩ := (HR.out.below hbl.out).atS (i := i) hil
            have hmem : (pth s).getD i ByteArray.empty ∈ pth s := by simp [List.getD, hil]
            obtain ⟨x, hx⟩ : ∃ x, x = (pth s).getD i ByteArray.empty := ⟨_, rfl⟩
            rw [← hx] at hc hmem
            by_cases hxa : x = a
            · have HX : Hid (true = wi s a) := (HW.out.2 (by rw [← hxa]; exact hmem)).symm
              have hxt := eq_text hxa
              clear hx hmem hxa
              go_wp2_with fail
              go_ret
              exact ⟨ret_bool HX.out, hBB.out⟩
            · have HN2 : Hid (∀ j, j < i + 1 → (pth s).getD j ByteArray.empty ≠ a) := fun j hj => by
                by_cases hji : j < i
                · exact hpre.out j hji
                · obtain rfl : j = i := by omega
                  rw [← hx]; exact hxa
              have hxt := ne_text hxa
              clear hx hmem hxa
              go_wp2_with fail
              go_roundw
              case rel => exact ⟨i + 1, by omega, by go_num, HN2, hbl⟩
              case measure => simp [intOf]; omega
          · obtain rfl : i = n := by omega
            have hlt2 : ¬ (i : Int) < (i : Int) := by omega
            have HX : Hid (false = wi s a) := by
              unfold Hid
              cases hw : wi s a
              · rfl
              · obtain ⟨j, hj, e⟩ := List.getElem_of_mem (HW.out.1 hw)
                exact absurd (by simp [List.getD, hj, e]) (hpre.out j (by have := HN.out; omega))
            go_wp2_with fail
            go_ret
            exact ⟨ret_bool HX.out, hBB.out⟩

/-- how far Common goes -/
theorem take_pre {p q : List Nat} {i : Nat} (hi : i < p.length) : p.take (i + 1) <+: q ↔ i + 1 ≤ (lcp p q).length := by
  have hl := lcp_len p q
  constructor
  · intro h
    apply Decidable.byContradiction
    intro hc
    have hk : (lcp p q).length < i + 1 := by omega
    obtain ⟨k, hk2⟩ : ∃ k, k = (lcp p q).length := ⟨_, rfl⟩
    have hlen := h.length_le
    rw [List.length_take] at hlen
    have h1 : k < p.length := by omega
    have h2 : k < q.length := by omega
    have hs := lcp_step p q k (by omega) h1 h2
    have : p[k] = q[k] := by
      have e := List.prefix_iff_eq_take.1 h
      have e2 := congrArg (fun l => l[k]?) e
      simp only [List.getElem?_take, List.length_take] at e2
      rw [if_pos (by omega), if_pos (by omega), List.getElem?_eq_getElem h1, List.getElem?_eq_getElem h2] at e2
      exact Option.some.inj e2
    have := hs.1 this
    omega
  · intro h
    have e1 : lcp p q <+: q := by
      have := lcp_take' p q
      rw [this]
      exact List.take_prefix _ _
    have e2 : p.take (i + 1) <+: lcp p q := by
      rw [lcp_take p q]
      rw [show p.take (i + 1) = (p.take (lcp p q).length).take (i + 1) by rw [List.take_take]; congr 1; omega]
      exact List.take_prefix _ _
    exact e2.trans e1
end Go.Proofs.YtkodfmpaeemaiaaDoor.C6
