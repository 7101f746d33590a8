import Derived.Test.YtkedgkfdmdlhoaaDoorPrd1
/- Layer 9: names: of the code and of the reference. -/
namespace Go.Proofs.YtkedgkfdmdlhoaaDoor.P9
open Go.RowKit Go.Sort C6

set_option maxHeartbeats 16000000 in
set_option maxRecDepth 100000 in
theorem name_v (s : ByteArray) (hs : s.size ≤ 1000) (w : World) : Calls Tryd.prog 23 #[.string s] w fun e w' => e = .returned (.bool (nm s.data.toList)) ∧ Below w.heap.size w w' := by
  have HL : Hid (s.data.toList.length = s.size) := lsz s
  obtain ⟨n, hn⟩ : ∃ n, s.size = n := ⟨_, rfl⟩
  have HN := Lib.hid hn
  have rest : Hid (∀ i, i < n → ∃ (hi : i < s.size) (k : Nat), (s[i]'hi).toNat = k ∧ k ≤ 255 ∧ Hid (s.data.toList.getD i 0 = s[i]'hi)) := fun i hi => ⟨by rw [hn]; exact hi, _, rfl, by have := (s[i]'(by rw [hn]; exact hi)).toNat_lt; omega, byte_get _⟩
  by_cases h1 : 1 ≤ n
  · have h1b : ((n : Int) == 0) = false := beq_eq_false_iff_ne.2 (by omega)
    by_cases h24 : n ≤ 24
    · have h24I : ¬ (24 : Int) < (n : Int) := by omega
      have h24J : (n : Int) ≤ 24 := by omega
      clear hs
      go_enter Tryd.func23, Tryd.ntmps23
      go_wp2_with fail
      go_loopw [15] (fun s15 wr => ∃ i : Nat, i ≤ n ∧ s15 = .int .i64 (i : Int) ∧ Hid (nmF i (s.data.toList.drop i) = nmF 0 s.data.toList) ∧ Hid (Below w.heap.size w wr)) (fun s15 _ => n - (intOf s15).toNat)
      case atStart => exact ⟨0, by omega, rfl, by unfold Hid; rw [List.drop_zero], Below.refl _ _⟩
      case round =>
        obtain ⟨i, hin, rfl, hinv, hbl⟩ := hrel
        by_cases hlt : i < n
        · have hlt2 : (i : Int) < (n : Int) := by omega
          obtain ⟨hi, k, hk, hk255, hg⟩ := rest.out i hlt
          obtain ⟨b, hb⟩ : ∃ b, b = s[i]'hi := ⟨_, rfl⟩
          have hbk : b.toNat = k := by rw [hb]; exact hk
          have hb := Lib.hid hb
          by_cases h97 : 97 ≤ k
          · have h97I : (97 : Int) ≤ (k : Int) := by omega
            have h48 : 48 ≤ k := by omega
            by_cases h122 : k ≤ 122
            · have h122I : (k : Int) ≤ 122 := by omega
              have hok : Hid (nmAt i b = true) := by unfold Hid nmAt aln; rw [hbk]; simp [h97, h122]
              have HI : Hid (nmF (i + 1) (s.data.toList.drop (i + 1)) = nmF 0 s.data.toList) := by unfold Hid; rw [← hinv.out, nmF_drop s.data.toList i (by rw [HL.out, HN.out]; exact hlt), hg.out, ← hb.out, hok.out]; rfl
              clear hok hg hinv hbk
              go_wp2_with fail
              go_roundw
              case rel => exact ⟨i + 1, by omega, by go_num, HI, hbl⟩
              case measure => simp [intOf]; omega
            · have h122I : ¬ (k : Int) ≤ 122 := by omega
              have h57 : ¬ k ≤ 57 := by omega
              have h57I : ¬ (k : Int) ≤ 57 := by omega
              by_cases hi0 : i = 0
              · have hiI : ¬ (0 : Int) < (i : Int) := by omega
                have hib : ((i : Int) == 0) = true := by rw [hi0]; rfl
                have hbad : Hid (nmAt i b = false) := by unfold Hid nmAt aln; rw [hbk]; rw [decide_eq_false h122, decide_eq_false h57]; simp [hi0]
                have HX : Hid (false = nm s.data.toList) := by
                  unfold Hid
                  refine (nm_not ?_).symm
                  rw [← hinv.out, nmF_drop s.data.toList i (by rw [HL.out, HN.out]; exact hlt), hg.out, ← hb.out, hbad.out]
                  rfl
                clear hbad hg hinv hbk hi0
                go_wp2_with fail
                go_ret
                exact ⟨ret_bool HX.out, hbl.out⟩
              · have hiI : (0 : Int) < (i : Int) := by omega
                have hib : ((i : Int) == 0) = false := beq_eq_false_iff_ne.2 (by omega)
                by_cases h45 : k = 45
                · have h45b : ((k : Int) == 45) = true := by rw [h45]; rfl
                  have h45n : ((k : Int) != 45) = false := by rw [h45]; rfl
                  have hok : Hid (nmAt i b = true) := by unfold Hid nmAt aln; rw [hbk]; simp [h45]; omega
                  have HI : Hid (nmF (i + 1) (s.data.toList.drop (i + 1)) = nmF 0 s.data.toList) := by unfold Hid; rw [← hinv.out, nmF_drop s.data.toList i (by rw [HL.out, HN.out]; exact hlt), hg.out, ← hb.out, hok.out]; rfl
                  clear hok hg hinv hbk h45 hi0
                  go_wp2_with fail
                  go_roundw
                  case rel => exact ⟨i + 1, by omega, by go_num, HI, hbl⟩
                  case measure => simp [intOf]; omega
                · have h45b : ((k : Int) == 45) = false := beq_eq_false_iff_ne.2 (by omega)
                  have h45n : ((k : Int) != 45) = true := bne_iff_ne.2 (by omega)
                  by_cases h46 : k = 46
                  · have h46b : ((k : Int) == 46) = true := by rw [h46]; rfl
                    have h46n : ((k : Int) != 46) = false := by rw [h46]; rfl
                    have hok : Hid (nmAt i b = true) := by unfold Hid nmAt aln; rw [hbk]; simp [h46]; omega
                    have HI : Hid (nmF (i + 1) (s.data.toList.drop (i + 1)) = nmF 0 s.data.toList) := by unfold Hid; rw [← hinv.out, nmF_drop s.data.toList i (by rw [HL.out, HN.out]; exact hlt), hg.out, ← hb.out, hok.out]; rfl
                    clear hok hg hinv hbk h45 h46 hi0
                    go_wp2_with fail
                    go_roundw
                    case rel => exact ⟨i + 1, by omega, by go_num, HI, hbl⟩
                    case measure => simp [intOf]; omega
                  · have h46b : ((k : Int) == 46) = false := beq_eq_false_iff_ne.2 (by omega)
                    have h46n : ((k : Int) != 46) = true := bne_iff_ne.2 (by omega)
                    have hbad : Hid (nmAt i b = false) := by unfold Hid nmAt aln; rw [hbk]; rw [decide_eq_false h122, decide_eq_false h57]; simp [h45, h46]
                    have HX : Hid (false = nm s.data.toList) := by
                      unfold Hid
                      refine (nm_not ?_).symm
                      rw [← hinv.out, nmF_drop s.data.toList i (by rw [HL.out, HN.out]; exact hlt), hg.out, ← hb.out, hbad.out]
                      rfl
                    clear hbad hg hinv hbk h45 h46 hi0
                    go_wp2_with fail
                    go_ret
                    exact ⟨ret_bool HX.out, hbl.out⟩
          · have h97I : ¬ (97 : Int) ≤ (k : Int) := by omega
            by_cases h48 : 48 ≤ k
            · have h48I : (48 : Int) ≤ (k : Int) := by omega
              by_cases h57 : k ≤ 57
              · have h57I : (k : Int) ≤ 57 := by omega
                have hok : Hid (nmAt i b = true) := by unfold Hid nmAt aln; rw [hbk]; simp [h48, h57]
                have HI : Hid (nmF (i + 1) (s.data.toList.drop (i + 1)) = nmF 0 s.data.toList) := by unfold Hid; rw [← hinv.out, nmF_drop s.data.toList i (by rw [HL.out, HN.out]; exact hlt), hg.out, ← hb.out, hok.out]; rfl
                clear hok hg hinv hbk
                go_wp2_with fail
                go_roundw
                case rel => exact ⟨i + 1, by omega, by go_num, HI, hbl⟩
                case measure => simp [intOf]; omega
              · have h57I : ¬ (k : Int) ≤ 57 := by omega
                by_cases hi0 : i = 0
                · have hiI : ¬ (0 : Int) < (i : Int) := by omega
                  have hib : ((i : Int) == 0) = true := by rw [hi0]; rfl
                  have hbad : Hid (nmAt i b = false) := by unfold Hid nmAt aln; rw [hbk]; rw [decide_eq_false h97, decide_eq_false h57]; simp [hi0]
                  have HX : Hid (false = nm s.data.toList) := by
                    unfold Hid
                    refine (nm_not ?_).symm
                    rw [← hinv.out, nmF_drop s.data.toList i (by rw [HL.out, HN.out]; exact hlt), hg.out, ← hb.out, hbad.out]
                    rfl
                  clear hbad hg hinv hbk hi0
                  go_wp2_with fail
                  go_ret
                  exact ⟨ret_bool HX.out, hbl.out⟩
                · have hiI : (0 : Int) < (i : Int) := by omega
                  have hib : ((i : Int) == 0) = false := beq_eq_false_iff_ne.2 (by omega)
                  by_cases h45 : k = 45
                  · have h45b : ((k : Int) == 45) = true := by rw [h45]; rfl
                    have h45n : ((k : Int) != 45) = false := by rw [h45]; rfl
                    have hok : Hid (nmAt i b = true) := by unfold Hid nmAt aln; rw [hbk]; simp [h45]; omega
                    have HI : Hid (nmF (i + 1) (s.data.toList.drop (i + 1)) = nmF 0 s.data.toList) := by unfold Hid; rw [← hinv.out, nmF_drop s.data.toList i (by rw [HL.out, HN.out]; exact hlt), hg.out, ← hb.out, hok.out]; rfl
                    clear hok hg hinv hbk h45 hi0
                    go_wp2_with fail
                    go_roundw
                    case rel => exact ⟨i + 1, by omega, by go_num, HI, hbl⟩
                    case measure => simp [intOf]; omega
                  · have h45b : ((k : Int) == 45) = false := beq_eq_false_iff_ne.2 (by omega)
                    have h45n : ((k : Int) != 45) = true := bne_iff_ne.2 (by omega)
                    by_cases h46 : k = 46
                    · have h46b : ((k : Int) == 46) = true := by rw [h46]; rfl
                      have h46n : ((k : Int) != 46) = false := by rw [h46]; rfl
                      have hok : Hid (nmAt i b = true) := by unfold Hid nmAt aln; rw [hbk]; simp [h46]; omega
                      have HI : Hid (nmF (i + 1) (s.data.toList.drop (i + 1)) = nmF 0 s.data.toList) := by unfold Hid; rw [← hinv.out, nmF_drop s.data.toList i (by rw [HL.out, HN.out]; exact hlt), hg.out, ← hb.out, hok.out]; rfl
                      clear hok hg hinv hbk h45 h46 hi0
                      go_wp2_with fail
                      go_roundw
                      case rel => exact ⟨i + 1, by omega, by go_num, HI, hbl⟩
                      case measure => simp [intOf]; omega
                    · have h46b : ((k : Int) == 46) = false := beq_eq_false_iff_ne.2 (by omega)
                      have h46n : ((k : Int) != 46) = true := bne_iff_ne.2 (by omega)
                      have hbad : Hid (nmAt i b = false) := by unfold Hid nmAt aln; rw [hbk]; rw [decide_eq_false h97, decide_eq_false h57]; simp [h45, h46]
                      have HX : Hid (false = nm s.data.toList) := by
                        unfold Hid
                        refine (nm_not ?_).symm
                        rw [← hinv.out, nmF_drop s.data.toList i (by rw [HL.out, HN.out]; exact hlt), hg.out, ← hb.out, hbad.out]
                        rfl
                      clear hbad hg hinv hbk h45 h46 hi0
                      go_wp2_with fail
                      go_ret
                      exact ⟨ret_bool HX.out, hbl.out⟩
            · have h48I : ¬ (48 : Int) ≤ (k : Int) := by omega
              by_cases hi0 : i = 0
              · have hiI : ¬ (0 : Int) < (i : Int) := by omega
                have hib : ((i : Int) == 0) = true := by rw [hi0]; rfl
                have hbad : Hid (nmAt i b = false) := by unfold Hid nmAt aln; rw [hbk]; rw [decide_eq_false h97, decide_eq_false h48]; simp [hi0]
                have HX : Hid (false = nm s.data.toList) := by
                  unfold Hid
                  refine (nm_not ?_).symm
                  rw [← hinv.out, nmF_drop s.data.toList i (by rw [HL.out, HN.out]; exact hlt), hg.out, ← hb.out, hbad.out]
                  rfl
                clear hbad hg hinv hbk hi0
                go_wp2_with fail
                go_ret
                exact ⟨ret_bool HX.out, hbl.out⟩
              · have hiI : (0 : Int) < (i : Int) := by omega
                have hib : ((i : Int) == 0) = false := beq_eq_false_iff_ne.2 (by omega)
                by_cases h45 : k = 45
                · have h45b : ((k : Int) == 45) = true := by rw [h45]; rfl
                  have h45n : ((k : Int) != 45) = false := by rw [h45]; rfl
                  have hok : Hid (nmAt i b = true) := by unfold Hid nmAt aln; rw [hbk]; simp [h45]; omega
                  have HI : Hid (nmF (i + 1) (s.data.toList.drop (i + 1)) = nmF 0 s.data.toList) := by unfold Hid; rw [← hinv.out, nmF_drop s.data.toList i (by rw [HL.out, HN.out]; exact hlt), hg.out, ← hb.out, hok.out]; rfl
                  clear hok hg hinv hbk h45 hi0
                  go_wp2_with fail
                  go_roundw
                  case rel => exact ⟨i + 1, by omega, by go_num, HI, hbl⟩
                  case measure => simp [intOf]; omega
                · have h45b : ((k : Int) == 45) = false := beq_eq_false_iff_ne.2 (by omega)
                  have h45n : ((k : Int) != 45) = true := bne_iff_ne.2 (by omega)
                  by_cases h46 : k = 46
                  · have h46b : ((k : Int) == 46) = true := by rw [h46]; rfl
                    have h46n : ((k : Int) != 46) = false := by rw [h46]; rfl
                    have hok : Hid (nmAt i b = true) := by unfold Hid nmAt aln; rw [hbk]; simp [h46]; omega
                    have HI : Hid (nmF (i + 1) (s.data.toList.drop (i + 1)) = nmF 0 s.data.toList) := by unfold Hid; rw [← hinv.out, nmF_drop s.data.toList i (by rw [HL.out, HN.out]; exact hlt), hg.out, ← hb.out, hok.out]; rfl
                    clear hok hg hinv hbk h45 h46 hi0
                    go_wp2_with fail
                    go_roundw
                    case rel => exact ⟨i + 1, by omega, by go_num, HI, hbl⟩
                    case measure => simp [intOf]; omega
                  · have h46b : ((k : Int) == 46) = false := beq_eq_false_iff_ne.2 (by omega)
                    have h46n : ((k : Int) != 46) = true := bne_iff_ne.2 (by omega)
                    have hbad : Hid (nmAt i b = false) := by unfold Hid nmAt aln; rw [hbk]; rw [decide_eq_false h97, decide_eq_false h48]; simp [h45, h46]
                    have HX : Hid (false = nm s.data.toList) := by
                      unfold Hid
                      refine (nm_not ?_).symm
                      rw [← hinv.out, nmF_drop s.data.toList i (by rw [HL.out, HN.out]; exact hlt), hg.out, ← hb.out, hbad.out]
                      rfl
                    clear hbad hg hinv hbk h45 h46 hi0
                    go_wp2_with fail
                    go_ret
                    exact ⟨ret_bool HX.out, hbl.out⟩
        · obtain rfl : i = n := by omega
          have hlt2 : ¬ (i : Int) < (i : Int) := by omega
          have hF : nmF 0 s.data.toList = true := by
            rw [← hinv.out, List.drop_eq_nil_of_le (by rw [HL.out, HN.out]; exact Nat.le_refl _)]
            rfl
          have HX : Hid (true = nm s.data.toList) := by unfold Hid; rw [nm_len (by rw [HL.out, HN.out]; exact h1) (by rw [HL.out, HN.out]; exact h24), hF]
          clear hF hinv
          go_wp2_with fail
          go_ret
          exact ⟨ret_bool HX.out, hbl.out⟩
    · have h24I : (24 : Int) < (n : Int) := by omega
      have HX : Hid (false = nm s.data.toList) := (nm_short (by rw [HL.out, HN.out]; omega)).symm
      go_enter Tryd.func23, Tryd.ntmps23
      go_wp2_with fail
      go_ret
      exact ⟨ret_bool HX.out, Below.refl _ _⟩
  · have h1b : ((n : Int) == 0) = true := by rw [show n = 0 by omega]; rfl
    have HX : Hid (false = nm s.data.toList) := (nm_short (by rw [HL.out, HN.out]; omega)).symm
    go_enter Tryd.func23, Tryd.ntmps23
    go_wp2_with fail
    go_ret
    exact ⟨ret_bool HX.out, Below.refl _ _⟩

set_option maxHeartbeats 16000000 in
set_option maxRecDepth 100000 in
theorem rname_v (s : ByteArray) (hs : s.size ≤ 1000) (w : World) : Calls Tryd.prog 28 #[.string s] w fun e w' => e = .returned (.bool (nm s.data.toList)) ∧ Below w.heap.size w w' := by
  have HL : Hid (s.data.toList.length = s.size) := lsz s
  obtain ⟨n, hn⟩ : ∃ n, s.size = n := ⟨_, rfl⟩
  have HN := Lib.hid hn
  have rest : Hid (∀ i, i < n → ∃ (hi : i < s.size) (k : Nat), (s[i]'hi).toNat = k ∧ k ≤ 255 ∧ Hid (s.data.toList.getD i 0 = s[i]'hi)) := fun i hi => ⟨by rw [hn]; exact hi, _, rfl, by have := (s[i]'(by rw [hn]; exact hi)).toNat_lt; omega, byte_get _⟩
  have hn1000 : n ≤ 1000 := by omega
  clear hs
  go_enter Tryd.func28, Tryd.ntmps28
  go_wp2_with fail
  go_loopw [7] (fun s7 wr => ∃ i : Nat, i ≤ n ∧ s7 = .int .i64 (i : Int) ∧ Hid (nmF i (s.data.toList.drop i) = nmF 0 s.data.toList) ∧ Hid (Below w.heap.size w wr)) (fun s7 _ => n - (intOf s7).toNat)
  case atStart => exact ⟨0, by omega, rfl, by unfold Hid; rw [List.drop_zero], Below.refl _ _⟩
  case round =>
    obtain ⟨i, hin, rfl, hinv, hbl⟩ := hrel
    by_cases hlt : i < n
    · have hlt2 : (i : Int) < (n : Int) := by omega
      obtain ⟨hi, k, hk, hk255, hg⟩ := rest.out i hlt
      obtain ⟨b, hb⟩ : ∃ b, b = s[i]'hi := ⟨_, rfl⟩
      have hbk : b.toNat = k := by rw [hb]; exact hk
      have hb := Lib.hid hb
      by_cases h97 : 97 ≤ k
      · have h97I : (97 : Int) ≤ (k : Int) := by omega
        have h48 : 48 ≤ k := by omega
        by_cases h122 : k ≤ 122
        · have h122I : (k : Int) ≤ 122 := by omega
          have hok : Hid (nmAt i b = true) := by unfold Hid nmAt aln; rw [hbk]; simp [h97, h122]
          have HI : Hid (nmF (i + 1) (s.data.toList.drop (i + 1)) = nmF 0 s.data.toList) := by unfold Hid; rw [← hinv.out, nmF_drop s.data.toList i (by rw [HL.out, HN.out]; exact hlt), hg.out, ← hb.out, hok.out]; rfl
          clear hok hg hinv hbk
          go_wp2_with fail
          go_roundw
          case rel => exact ⟨i + 1, by omega, by go_num, HI, hbl⟩
          case measure => simp [intOf]; omega
        · have h122I : ¬ (k : Int) ≤ 122 := by omega
          have h57 : ¬ k ≤ 57 := by omega
          have h57I : ¬ (k : Int) ≤ 57 := by omega
          by_cases hi0 : i = 0
          · have hiI : ¬ (0 : Int) < (i : Int) := by omega
            have hib : ((i : Int) == 0) = true := by rw [hi0]; rfl
            have hbad : Hid (nmAt i b = false) := by unfold Hid nmAt aln; rw [hbk]; rw [decide_eq_false h122, decide_eq_false h57]; simp [hi0]
            have HX : Hid (false = nm s.data.toList) := by
              unfold Hid
              refine (nm_not ?_).symm
              rw [← hinv.out, nmF_drop s.data.toList i (by rw [HL.out, HN.out]; exact hlt), hg.out, ← hb.out, hbad.out]
              rfl
            clear hbad hg hinv hbk hi0
            go_wp2_with fail
            go_ret
            exact ⟨ret_bool HX.out, hbl.out⟩
          · have hiI : (0 : Int) < (i : Int) := by omega
            have hib : ((i : Int) == 0) = false := beq_eq_false_iff_ne.2 (by omega)
            by_cases h45 : k = 45
            · have h45b : ((k : Int) == 45) = true := by rw [h45]; rfl
              have h45n : ((k : Int) != 45) = false := by rw [h45]; rfl
              have hok : Hid (nmAt i b = true) := by unfold Hid nmAt aln; rw [hbk]; simp [h45]; omega
              have HI : Hid (nmF (i + 1) (s.data.toList.drop (i + 1)) = nmF 0 s.data.toList) := by unfold Hid; rw [← hinv.out, nmF_drop s.data.toList i (by rw [HL.out, HN.out]; exact hlt), hg.out, ← hb.out, hok.out]; rfl
              clear hok hg hinv hbk h45 hi0
              go_wp2_with fail
              go_roundw
              case rel => exact ⟨i + 1, by omega, by go_num, HI, hbl⟩
              case measure => simp [intOf]; omega
            · have h45b : ((k : Int) == 45) = false := beq_eq_false_iff_ne.2 (by omega)
              have h45n : ((k : Int) != 45) = true := bne_iff_ne.2 (by omega)
              by_cases h46 : k = 46
              · have h46b : ((k : Int) == 46) = true := by rw [h46]; rfl
                have h46n : ((k : Int) != 46) = false := by rw [h46]; rfl
                have hok : Hid (nmAt i b = true) := by unfold Hid nmAt aln; rw [hbk]; simp [h46]; omega
                have HI : Hid (nmF (i + 1) (s.data.toList.drop (i + 1)) = nmF 0 s.data.toList) := by unfold Hid; rw [← hinv.out, nmF_drop s.data.toList i (by rw [HL.out, HN.out]; exact hlt), hg.out, ← hb.out, hok.out]; rfl
                clear hok hg hinv hbk h45 h46 hi0
                go_wp2_with fail
                go_roundw
                case rel => exact ⟨i + 1, by omega, by go_num, HI, hbl⟩
                case measure => simp [intOf]; omega
              · have h46b : ((k : Int) == 46) = false := beq_eq_false_iff_ne.2 (by omega)
                have h46n : ((k : Int) != 46) = true := bne_iff_ne.2 (by omega)
                have hbad : Hid (nmAt i b = false) := by unfold Hid nmAt aln; rw [hbk]; rw [decide_eq_false h122, decide_eq_false h57]; simp [h45, h46]
                have HX : Hid (false = nm s.data.toList) := by
                  unfold Hid
                  refine (nm_not ?_).symm
                  rw [← hinv.out, nmF_drop s.data.toList i (by rw [HL.out, HN.out]; exact hlt), hg.out, ← hb.out, hbad.out]
                  rfl
                clear hbad hg hinv hbk h45 h46 hi0
                go_wp2_with fail
                go_ret
                exact ⟨ret_bool HX.out, hbl.out⟩
      · have h97I : ¬ (97 : Int) ≤ (k : Int) := by omega
        by_cases h48 : 48 ≤ k
        · have h48I : (48 : Int) ≤ (k : Int) := by omega
          by_cases h57 : k ≤ 57
          · have h57I : (k : Int) ≤ 57 := by omega
            have hok : Hid (nmAt i b = true) := by unfold Hid nmAt aln; rw [hbk]; simp [h48, h57]
            have HI : Hid (nmF (i + 1) (s.data.toList.drop (i + 1)) = nmF 0 s.data.toList) := by unfold Hid; rw [← hinv.out, nmF_drop s.data.toList i (by rw [HL.out, HN.out]; exact hlt), hg.out, ← hb.out, hok.out]; rfl
            clear hok hg hinv hbk
            go_wp2_with fail
            go_roundw
            case rel => exact ⟨i + 1, by omega, by go_num, HI, hbl⟩
            case measure => simp [intOf]; omega
          · have h57I : ¬ (k : Int) ≤ 57 := by omega
            by_cases hi0 : i = 0
            · have hiI : ¬ (0 : Int) < (i : Int) := by omega
              have hib : ((i : Int) == 0) = true := by rw [hi0]; rfl
              have hbad : Hid (nmAt i b = false) := by unfold Hid nmAt aln; rw [hbk]; rw [decide_eq_false h97, decide_eq_false h57]; simp [hi0]
              have HX : Hid (false = nm s.data.toList) := by
                unfold Hid
                refine (nm_not ?_).symm
                rw [← hinv.out, nmF_drop s.data.toList i (by rw [HL.out, HN.out]; exact hlt), hg.out, ← hb.out, hbad.out]
                rfl
              clear hbad hg hinv hbk hi0
              go_wp2_with fail
              go_ret
              exact ⟨ret_bool HX.out, hbl.out⟩
            · have hiI : (0 : Int) < (i : Int) := by omega
              have hib : ((i : Int) == 0) = false := beq_eq_false_iff_ne.2 (by omega)
              by_cases h45 : k = 45
              · have h45b : ((k : Int) == 45) = true := by rw [h45]; rfl
                have h45n : ((k : Int) != 45) = false := by rw [h45]; rfl
                have hok : Hid (nmAt i b = true) := by unfold Hid nmAt aln; rw [hbk]; simp [h45]; omega
                have HI : Hid (nmF (i + 1) (s.data.toList.drop (i + 1)) = nmF 0 s.data.toList) := by unfold Hid; rw [← hinv.out, nmF_drop s.data.toList i (by rw [HL.out, HN.out]; exact hlt), hg.out, ← hb.out, hok.out]; rfl
                clear hok hg hinv hbk h45 hi0
                go_wp2_with fail
                go_roundw
                case rel => exact ⟨i + 1, by omega, by go_num, HI, hbl⟩
                case measure => simp [intOf]; omega
              · have h45b : ((k : Int) == 45) = false := beq_eq_false_iff_ne.2 (by omega)
                have h45n : ((k : Int) != 45) = true := bne_iff_ne.2 (by omega)
                by_cases h46 : k = 46
                · have h46b : ((k : Int) == 46) = true := by rw [h46]; rfl
                  have h46n : ((k : Int) != 46) = false := by rw [h46]; rfl
                  have hok : Hid (nmAt i b = true) := by unfold Hid nmAt aln; rw [hbk]; simp [h46]; omega
                  have HI : Hid (nmF (i + 1) (s.data.toList.drop (i + 1)) = nmF 0 s.data.toList) := by unfold Hid; rw [← hinv.out, nmF_drop s.data.toList i (by rw [HL.out, HN.out]; exact hlt), hg.out, ← hb.out, hok.out]; rfl
                  clear hok hg hinv hbk h45 h46 hi0
                  go_wp2_with fail
                  go_roundw
                  case rel => exact ⟨i + 1, by omega, by go_num, HI, hbl⟩
                  case measure => simp [intOf]; omega
                · have h46b : ((k : Int) == 46) = false := beq_eq_false_iff_ne.2 (by omega)
                  have h46n : ((k : Int) != 46) = true := bne_iff_ne.2 (by omega)
                  have hbad : Hid (nmAt i b = false) := by unfold Hid nmAt aln; rw [hbk]; rw [decide_eq_false h97, decide_eq_false h57]; simp [h45, h46]
                  have HX : Hid (false = nm s.data.toList) := by
                    unfold Hid
                    refine (nm_not ?_).symm
                    rw [← hinv.out, nmF_drop s.data.toList i (by rw [HL.out, HN.out]; exact hlt), hg.out, ← hb.out, hbad.out]
                    rfl
                  clear hbad hg hinv hbk h45 h46 hi0
                  go_wp2_with fail
                  go_ret
                  exact ⟨ret_bool HX.out, hbl.out⟩
        · have h48I : ¬ (48 : Int) ≤ (k : Int) := by omega
          by_cases hi0 : i = 0
          · have hiI : ¬ (0 : Int) < (i : Int) := by omega
            have hib : ((i : Int) == 0) = true := by rw [hi0]; rfl
            have hbad : Hid (nmAt i b = false) := by unfold Hid nmAt aln; rw [hbk]; rw [decide_eq_false h97, decide_eq_false h48]; simp [hi0]
            have HX : Hid (false = nm s.data.toList) := by
              unfold Hid
              refine (nm_not ?_).symm
              rw [← hinv.out, nmF_drop s.data.toList i (by rw [HL.out, HN.out]; exact hlt), hg.out, ← hb.out, hbad.out]
              rfl
            clear hbad hg hinv hbk hi0
            go_wp2_with fail
            go_ret
            exact ⟨ret_bool HX.out, hbl.out⟩
          · have hiI : (0 : Int) < (i : Int) := by omega
            have hib : ((i : Int) == 0) = false := beq_eq_false_iff_ne.2 (by omega)
            by_cases h45 : k = 45
            · have h45b : ((k : Int) == 45) = true := by rw [h45]; rfl
              have h45n : ((k : Int) != 45) = false := by rw [h45]; rfl
              have hok : Hid (nmAt i b = true) := by unfold Hid nmAt aln; rw [hbk]; simp [h45]; omega
              have HI : Hid (nmF (i + 1) (s.data.toList.drop (i + 1)) = nmF 0 s.data.toList) := by unfold Hid; rw [← hinv.out, nmF_drop s.data.toList i (by rw [HL.out, HN.out]; exact hlt), hg.out, ← hb.out, hok.out]; rfl
              clear hok hg hinv hbk h45 hi0
              go_wp2_with fail
              go_roundw
              case rel => exact ⟨i + 1, by omega, by go_num, HI, hbl⟩
              case measure => simp [intOf]; omega
            · have h45b : ((k : Int) == 45) = false := beq_eq_false_iff_ne.2 (by omega)
              have h45n : ((k : Int) != 45) = true := bne_iff_ne.2 (by omega)
              by_cases h46 : k = 46
              · have h46b : ((k : Int) == 46) = true := by rw [h46]; rfl
                have h46n : ((k : Int) != 46) = false := by rw [h46]; rfl
                have hok : Hid (nmAt i b = true) := by unfold Hid nmAt aln; rw [hbk]; simp [h46]; omega
                have HI : Hid (nmF (i + 1) (s.data.toList.drop (i + 1)) = nmF 0 s.data.toList) := by unfold Hid; rw [← hinv.out, nmF_drop s.data.toList i (by rw [HL.out, HN.out]; exact hlt), hg.out, ← hb.out, hok.out]; rfl
                clear hok hg hinv hbk h45 h46 hi0
                go_wp2_with fail
                go_roundw
                case rel => exact ⟨i + 1, by omega, by go_num, HI, hbl⟩
                case measure => simp [intOf]; omega
              · have h46b : ((k : Int) == 46) = false := beq_eq_false_iff_ne.2 (by omega)
                have h46n : ((k : Int) != 46) = true := bne_iff_ne.2 (by omega)
                have hbad : Hid (nmAt i b = false) := by unfold Hid nmAt aln; rw [hbk]; rw [decide_eq_false h97, decide_eq_false h48]; simp [h45, h46]
                have HX : Hid (false = nm s.data.toList) := by
                  unfold Hid
                  refine (nm_not ?_).symm
                  rw [← hinv.out, nmF_drop s.data.toList i (by rw [HL.out, HN.out]; exact hlt), hg.out, ← hb.out, hbad.out]
                  rfl
                clear hbad hg hinv hbk h45 h46 hi0
                go_wp2_with fail
                go_ret
                exact ⟨ret_bool HX.out, hbl.out⟩
    · obtain rfl : i = n := by omega
      have hlt2 : ¬ (i : Int) < (i : Int) := by omega
      have hF : nmF 0 s.data.toList = true := by
        rw [← hinv.out, List.drop_eq_nil_of_le (by rw [HL.out, HN.out]; exact Nat.le_refl _)]
        rfl
      by_cases h1 : 1 ≤ i
      · have h1I : (1 : Int) ≤ (i : Int) := by omega
        by_cases h24 : i ≤ 24
        · have h24I : (i : Int) ≤ 24 := by omega
          have HX : Hid (true = nm s.data.toList) := by unfold Hid; rw [nm_len (by rw [HL.out, HN.out]; exact h1) (by rw [HL.out, HN.out]; exact h24), hF]
          clear hF hinv
          go_wp2_with fail
          go_ret
          exact ⟨ret_bool HX.out, hbl.out⟩
        · have h24I : ¬ (i : Int) ≤ 24 := by omega
          have HX : Hid (false = nm s.data.toList) := (nm_short (by rw [HL.out, HN.out]; omega)).symm
          clear hF hinv
          go_wp2_with fail
          go_ret
          exact ⟨ret_bool HX.out, hbl.out⟩
      · have h1I : ¬ (1 : Int) ≤ (i : Int) := by omega
        have HX : Hid (false = nm s.data.toList) := (nm_short (by rw [HL.out, HN.out]; omega)).symm
        clear hF hinv
        go_wp2_with fail
        go_ret
        exact ⟨ret_bool HX.out, hbl.out⟩
end Go.Proofs.YtkedgkfdmdlhoaaDoor.P9
