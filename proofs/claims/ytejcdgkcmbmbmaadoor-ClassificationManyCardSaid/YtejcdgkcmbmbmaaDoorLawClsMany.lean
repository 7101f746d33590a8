import Derived.Test.YtejcdgkcmbmbmaaDoorCls14
import Derived.Test.YtejcdgkcmbmbmaaDoorClsW
import Derived.Test.YtejcdgkcmbmbmaaDoorFold6
import Derived.Test.YtejcdgkcmbmbmaaDoorTwo
/- ClassificationMany for all inputs: the greatest number of codes is allowed, one more is not. -/
namespace Go.Proofs.YtejcdgkcmbmbmaaDoor.C6
open Go.RowKit Go.Sort

/-- a classification's box whose list is whatever value -/
def Bx (w : World) (g : Nat) (v : Value) : Prop := w.heap[g]? = some (.cells #[.string ⟨#[]⟩, v] 49 (0, 0))
theorem Bx.c0 {w : World} {g : Nat} {v : Value} (h : Bx w g v) : w.cell? ⟨g, 0, none⟩ = some (.string ⟨#[]⟩) := by
  unfold Bx at h
  simp [World.cell?, h]
theorem Bx.c1 {w : World} {g : Nat} {v : Value} (h : Bx w g v) : w.cell? ⟨g, 1, none⟩ = some v := by
  unfold Bx at h
  simp [World.cell?, h]
theorem Bx.fz {w : World} {g : Nat} {v : Value} (h : Bx w g v) (j : Nat) : w.frozen? ⟨g, j, none⟩ = false := by
  unfold Bx at h
  simp [World.frozen?, h]
theorem Bx.lt {w : World} {g : Nat} {v : Value} (h : Bx w g v) : g < w.heap.size := (Array.getElem?_eq_some_iff.1 h).1
theorem Bx.set {w : World} {g : Nat} {v : Value} (h : Bx w g v) (u : Value) : Bx (w.setCell ⟨g, 1, none⟩ u) g u := by
  unfold Bx at h ⊢
  simp [World.setCell, Array.getElem?_modify, h]
theorem Bx.grown {w w' : World} {g : Nat} {v : Value} {row : Option Nat} (h : Bx w g v) (k : w.grownBy w' row) (hne : some g ≠ row) : Bx w' g v := (k.block g h.lt hne).trans h
theorem Bx.below {w w' : World} {g : Nat} {v : Value} (h : Bx w g v) (b : Below w.heap.size w w') : Bx w' g v := (b.block g h.lt).trans h

theorem of_row_n {w : World} {base n size : Nat} {e : TypeId} {v : Value} {xs : List Value} (h : w.ownsRow base e size v n xs) : ∃ ao cap, v = .slice ao n cap := by
  rcases h.2 with ⟨rfl, rfl⟩ | ⟨g, cap, cur, rfl, _⟩
  · exact ⟨none, 0, rfl⟩
  · exact ⟨_, cap, rfl⟩
set_option maxHeartbeats 8000000 in
set_option maxRecDepth 100000 in
theorem ClassificationMany_any (x : Int) (w : World) (hev : ErrV w) :
    Calls Tryd.prog 10 #[.int .i64 x] w fun e w' => e = .returned (.bool true) ∧ Below w.heap.size w w' := by
  obtain ⟨i0, hi, hz0, hz1, hz2⟩ := info_parts infoStr
  have HE := Lib.hid hev
  clear hev
  go_enter Tryd.func10, Tryd.ntmps10
  go_wp2_with fail
  refine (Fold_v x 3 (by omega) (by omega) _ 3 rfl).mono ?_; rintro e w1 ⟨r, rfl, hr, rfl⟩
  obtain ⟨k, hk⟩ : ∃ k, k = 199 + r := ⟨_, rfl⟩
  have hkI : 199 + (r : Int) = (k : Int) := by omega
  have hk0 : 199 ≤ k := by omega
  have hk1 : k ≤ 201 := by omega
  have HK := Lib.hid hkI
  have hr3 : (r : Int) < 3 := by omega
  clear hk hkI
  go_wp2_with fail
  rw [HK.out]
  obtain ⟨g, hg⟩ : ∃ g, g = w.heap.size := ⟨_, rfl⟩
  have HG := Lib.hid hg
  have HBX : Hid (Bx (w.alloc (.cells #[.string ⟨#[]⟩, .slice none 0 0] 49)) g (.slice none 0 0)) := by
    unfold Hid Bx World.alloc
    rw [hg]
    simp
  have HB0 : Hid (Below g w (w.alloc (.cells #[.string ⟨#[]⟩, .slice none 0 0] 49))) := by rw [hg]; exact below_new _ _
  rw [← hg]
  clear hg
  go_loopw [16] (fun s16 wr => ∃ (i : Nat) (v : Value), i ≤ k ∧ s16 = .int .i64 (i : Int) ∧ Hid (Bx wr g v) ∧ Hid (wr.ownsRow (g + 1) 9 1 v i (strs (lm i))) ∧ Hid (Below g w wr)) (fun s16 _ => k - (intOf s16).toNat)
  case atStart => exact ⟨0, _, by omega, rfl, HBX, World.ownsRow_nil _ _ _ _, HB0⟩
  case round =>
    obtain ⟨i, v, hik, rfl, hbx, hown, hbl⟩ := hrel
    by_cases hlt : i < k
    · have hlt2 : (i : Int) < (k : Int) := by omega
      have e9 : (i : Int) ≤ 201 := by omega
      by_cases hm : i % 100 = 0
      · have hm2 : ((i : Int) % 100 == 0) = true := beq_iff_eq.2 (by omega)
        have hpt : pt i = [1 + i / 100] := by unfold pt; rw [if_pos hm]
        clear hm
        obtain ⟨WF, hWF⟩ : ∃ W, W = wr.alloc (.cells #[.int .i64 (1 + (i : Int) / 100)] 3) := ⟨_, rfl⟩
        have bF : Below wr.heap.size wr WF := by rw [hWF]; exact below_new _ _
        have hrz : RdZ WF (some ⟨wr.heap.size, 0, none⟩) 1 (zz (pt i)) := by
          rw [hpt]
          refine ⟨by simp [zz, intz], by omega, .inr ⟨_, 0, rfl, fun j v hv => ?_⟩⟩
          rw [hWF, Nat.zero_add, World.cell?_alloc_mark wr _ _ (0, 0) j]
          simp [zz, intz] at hv ⊢
          exact hv
        have hF := (rFormat_v (some ⟨wr.heap.size, 0, none⟩) 1 (zz (pt i)) WF hrz)
        rw [zz_length, show (pt i).length = 1 by rw [hpt]; rfl] at hF
        have hF2 : Calls Tryd.prog 19 #[.slice (some ⟨wr.heap.size, 0, none⟩) 1 1] WF fun e w' => e = .returned (.tuple #[.string (txt (pt i)), .int .i64 0]) ∧ Below WF.heap.size WF w' := hF.mono fun e w' ⟨he, hw⟩ => ⟨fmt_txt (pt_pts (by omega)) he, hw⟩
        obtain ⟨T, hT⟩ : ∃ T, T = txt (pt i) := ⟨_, rfl⟩
        rw [← hT] at hF2
        have HF := Lib.hid hF2
        have HBF := Lib.hid bF
        have HTT := Lib.hid hT
        clear hF hF2 hrz bF hT hpt
        go_wp2_with fail
        rw [← hWF]
        clear hWF
        refine HF.out.mono ?_; rintro e w2 ⟨rfl, b2⟩
        have HW2 := Lib.hid (keep HBF.out b2)
        have HX2 := Lib.hid (hbx.out.below HW2.out)
        have HO := Lib.hid (own_below hown.out HW2.out)
        have HB2 := Lib.hid (hbl.out.trans (HW2.out.mono (Nat.le_of_lt hbx.out.lt)))
        have hsz2 : g + 1 ≤ w2.heap.size := HX2.out.lt
        have q1 := HX2.out.c1
        have qf := HX2.out.fz 1
        have hrows : ∀ k, v.ownBlock = some k → g + 1 ≤ k := fun k e => (HO.out.lt k e).1
        clear b2
        have hgrA : some g ≠ v.ownBlock := fun e => by have := hrows g e.symm; omega
        go_wp2_with (at_builtin; refine wpList_append_own _ rfl _ _ 27 rfl (g + 1) 9 i0 (.string ByteArray.empty) 1 16 Tryd.underlying27 hi hz0 hz1 hz2 rfl (by omega) _ _ _ rfl (HO.out.alloc _) ⟨w2.heap.size, 0, none⟩ 1 1 [.string T] rfl rfl (one_cell _ _ _) (by intro u hu; simp at hu; rcases hu with rfl; rfl) (by unfold maxLen; omega) (by omega) (by simp; omega) ?_; intro v3 w3 hown3 hgr3 _; obtain ⟨a3, c3, rfl⟩ := of_row_n hown3; have HX3 : Hid (Bx w3 g v) := (HX2.out.below (below_new w2 _)).grown hgr3 hgrA; have q3 := HX3.out.c1; have qf3 := HX3.out.fz 1)
        have HB3 : Hid (Below g w w3) := app_below HB2.out (by omega) hgr3 (fun k e => by have := hrows k e; omega)
        have HO3 : Hid (w3.ownsRow (g + 1) 9 1 (.slice a3 (i + 1) c3) (i + 1) (strs (lm (i + 1)))) := by unfold Hid; rw [lm_succ, show strs (lm i ++ [txt (pt i)]) = strs (lm i) ++ [.string (txt (pt i))] by simp [strs], ← HTT.out]; exact hown3
        clear hown3 hgr3 q1 qf
        go_roundw
        case rel => exact ⟨i + 1, .slice a3 (i + 1) c3, by omega, by go_num, HX3.out.set _, HO3.out.kept (gb_set _ _ _ _) (row_block HO3.out (by omega)), HB3.out.setCell (Nat.le_refl _) _⟩
        case measure => simp [intOf]; omega
      · have hm2 : ((i : Int) % 100 == 0) = false := beq_eq_false_iff_ne.2 (by omega)
        have hpt : pt i = [1 + i / 100, i % 100] := by unfold pt; rw [if_neg hm]
        clear hm
        obtain ⟨WF, hWF⟩ : ∃ W, W = wr.alloc (.cells #[.int .i64 (1 + (i : Int) / 100), .int .i64 ((i : Int) % 100)] 3) := ⟨_, rfl⟩
        have bF : Below wr.heap.size wr WF := by rw [hWF]; exact below_new _ _
        have hrz : RdZ WF (some ⟨wr.heap.size, 0, none⟩) 2 (zz (pt i)) := by
          rw [hpt]
          refine ⟨by simp [zz, intz], by omega, .inr ⟨_, 0, rfl, fun j v hv => ?_⟩⟩
          rw [hWF, Nat.zero_add, World.cell?_alloc_mark wr _ _ (0, 0) j]
          simp [zz, intz] at hv ⊢
          exact hv
        have hF := (rFormat_v (some ⟨wr.heap.size, 0, none⟩) 2 (zz (pt i)) WF hrz)
        rw [zz_length, show (pt i).length = 2 by rw [hpt]; rfl] at hF
        have hF2 : Calls Tryd.prog 19 #[.slice (some ⟨wr.heap.size, 0, none⟩) 2 2] WF fun e w' => e = .returned (.tuple #[.string (txt (pt i)), .int .i64 0]) ∧ Below WF.heap.size WF w' := hF.mono fun e w' ⟨he, hw⟩ => ⟨fmt_txt (pt_pts (by omega)) he, hw⟩
        obtain ⟨T, hT⟩ : ∃ T, T = txt (pt i) := ⟨_, rfl⟩
        rw [← hT] at hF2
        have HF := Lib.hid hF2
        have HBF := Lib.hid bF
        have HTT := Lib.hid hT
        clear hF hF2 hrz bF hT hpt
        go_wp2_with fail
        rw [← hWF]
        clear hWF
        refine HF.out.mono ?_; rintro e w2 ⟨rfl, b2⟩
        have HW2 := Lib.hid (keep HBF.out b2)
        have HX2 := Lib.hid (hbx.out.below HW2.out)
        have HO := Lib.hid (own_below hown.out HW2.out)
        have HB2 := Lib.hid (hbl.out.trans (HW2.out.mono (Nat.le_of_lt hbx.out.lt)))
        have hsz2 : g + 1 ≤ w2.heap.size := HX2.out.lt
        have q1 := HX2.out.c1
        have qf := HX2.out.fz 1
        have hrows : ∀ k, v.ownBlock = some k → g + 1 ≤ k := fun k e => (HO.out.lt k e).1
        clear b2
        have hgrA : some g ≠ v.ownBlock := fun e => by have := hrows g e.symm; omega
        go_wp2_with (at_builtin; refine wpList_append_own _ rfl _ _ 27 rfl (g + 1) 9 i0 (.string ByteArray.empty) 1 16 Tryd.underlying27 hi hz0 hz1 hz2 rfl (by omega) _ _ _ rfl (HO.out.alloc _) ⟨w2.heap.size, 0, none⟩ 1 1 [.string T] rfl rfl (one_cell _ _ _) (by intro u hu; simp at hu; rcases hu with rfl; rfl) (by unfold maxLen; omega) (by omega) (by simp; omega) ?_; intro v3 w3 hown3 hgr3 _; obtain ⟨a3, c3, rfl⟩ := of_row_n hown3; have HX3 : Hid (Bx w3 g v) := (HX2.out.below (below_new w2 _)).grown hgr3 hgrA; have q3 := HX3.out.c1; have qf3 := HX3.out.fz 1)
        have HB3 : Hid (Below g w w3) := app_below HB2.out (by omega) hgr3 (fun k e => by have := hrows k e; omega)
        have HO3 : Hid (w3.ownsRow (g + 1) 9 1 (.slice a3 (i + 1) c3) (i + 1) (strs (lm (i + 1)))) := by unfold Hid; rw [lm_succ, show strs (lm i ++ [txt (pt i)]) = strs (lm i) ++ [.string (txt (pt i))] by simp [strs], ← HTT.out]; exact hown3
        clear hown3 hgr3 q1 qf
        go_roundw
        case rel => exact ⟨i + 1, .slice a3 (i + 1) c3, by omega, by go_num, HX3.out.set _, HO3.out.kept (gb_set _ _ _ _) (row_block HO3.out (by omega)), HB3.out.setCell (Nat.le_refl _) _⟩
        case measure => simp [intOf]; omega
    · obtain rfl : i = k := by omega
      have hlt2 : ¬ (i : Int) < (i : Int) := by omega
      obtain ⟨ao, cap, e4, hrd, _⟩ := RdV.of_row hown.out
      rw [strs_length, lm_length] at e4
      subst e4
      have hV := Validate_v ⟨#[]⟩ ao cap (lm i) wr hrd (HE.out.below (by rw [← HG.out]; exact hbl.out))
      rw [lm_length] at hV
      have hv : (i ≤ 200 ∧ val (lm i) = 0) ∨ (200 < i ∧ val (lm i) = 61) := by
        by_cases h : i ≤ 200
        · exact .inl ⟨h, lm_val (by omega) h⟩
        · exact .inr ⟨by omega, lm_over (by omega)⟩
      have q0 := hbx.out.c0
      have q1 := hbx.out.c1
      clear hrd
      rcases hv with ⟨h1, h2⟩ | ⟨h1, h2⟩
      all_goals
        first
          | have h1I : (i : Int) ≤ 200 := by omega
          | have h1I : ¬ (i : Int) ≤ 200 := by omega
        rw [h2] at hV
        have V := Lib.hid hV
        clear hV h2
        go_wp2_with fail
        refine V.out.mono ?_; rintro e w5 ⟨rfl, b5⟩
        have HB5 : Hid (Below w.heap.size w w5) := by have h := keepB hbl.out (by rw [← HG.out]; exact Nat.le_refl _) b5; rw [HG.out] at h; exact h
        clear b5
        go_wp2_with fail
        refine (awake_v _ (HE.out.below HB5.out)).mono ?_; rintro e w9 ⟨rfl, b9⟩
        have BE := Lib.hid (keep HB5.out b9)
        clear b9
        go_wp2_with fail
        go_ret
        refine ⟨?_, BE.out⟩
        first
          | rfl
          | exact ret_bool (a := !decide ((i : Int) ≤ 200)) (by simp; omega)
end Go.Proofs.YtejcdgkcmbmbmaaDoor.C6
