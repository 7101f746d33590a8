import Derived.Test.YtkodfmpaeemaiaaDoorClsG
import Derived.Test.YtkodfmpaeemaiaaDoorCls28
import Derived.Test.YtkodfmpaeemaiaaDoorCls10
/- Cover of both. -/
namespace Go.Proofs.YtkodfmpaeemaiaaDoor.C6
open Go.RowKit Go.Sort

theorem cntW_nil (x : ByteArray) : cntW x [] = 0 := rfl
theorem cntW_yes {x : ByteArray} {ls : List ByteArray} {i : Nat} (hi : i < ls.length) (h : wi x (ls.getD i ByteArray.empty) = true) : cntW x (ls.take (i + 1)) = cntW x (ls.take i) + 1 := by
  have e : ls.getD i ByteArray.empty = ls[i] := by simp [List.getD, hi]
  rw [e] at h
  unfold cntW
  rw [List.take_add_one, List.getElem?_eq_getElem hi, List.countP_append]
  simp [h]
theorem cntW_no {x : ByteArray} {ls : List ByteArray} {i : Nat} (hi : i < ls.length) (h : wi x (ls.getD i ByteArray.empty) = false) : cntW x (ls.take (i + 1)) = cntW x (ls.take i) := by
  have e : ls.getD i ByteArray.empty = ls[i] := by simp [List.getD, hi]
  rw [e] at h
  unfold cntW
  rw [List.take_add_one, List.getElem?_eq_getElem hi, List.countP_append]
  simp [h]
theorem cov_f2 {l ls : List ByteArray} {u : ByteArray} {i : Nat} (hi : i < ls.length) (h : (wi (ls.getD i ByteArray.empty) u && Lib.containsS l (ls.getD i ByteArray.empty)) = false) : cov l u ls = false := by
  have e : ls.getD i ByteArray.empty = ls[i] := by simp [List.getD, hi]
  rw [e] at h
  unfold cov
  have : covA l u ls = false := by
    cases hA : covA l u ls with
    | false => rfl
    | true => rw [(List.all_eq_true.1 hA) ls[i] (List.getElem_mem hi)] at h; cases h
  rw [this]; simp
theorem cov_f3 {l ls L : List ByteArray} {u : ByteArray} {i : Nat} (hL : L = selK l u (lvf l u)) (hi : i < L.length) (h : cntW (L.getD i ByteArray.empty) ls ≠ 1) : cov l u ls = false := by
  have e : L.getD i ByteArray.empty = L[i] := by simp [List.getD, hi]
  rw [e] at h
  unfold cov
  rw [← hL]
  have : covB L ls = false := by
    cases hB : covB L ls with
    | false => rfl
    | true => exact absurd (of_decide_eq_true ((List.all_eq_true.1 hB) L[i] (List.getElem_mem hi))) h
  rw [this]; simp
theorem cov_f1 {l ls L : List ByteArray} {u : ByteArray} (hL : L = selK l u (lvf l u)) (h : L.length = 0 ∨ L.length < ls.length) : cov l u ls = false := by
  rw [← cov_eq, ← hL, if_pos h]
theorem cov_f0 {l ls : List ByteArray} {u : ByteArray} (h : kn l u = false) : cov l u ls = false := by
  unfold cov
  rw [h]; rfl
theorem cov_ab {l ls L : List ByteArray} {u : ByteArray} (h2 : ∀ i, i < ls.length → (wi (ls.getD i ByteArray.empty) u && Lib.containsS l (ls.getD i ByteArray.empty)) = true) (h3 : ∀ i, i < L.length → cntW (L.getD i ByteArray.empty) ls = 1) : (covA l u ls && covB L ls) = true := by
  have ha : covA l u ls = true := List.all_eq_true.2 fun s hs => by
    obtain ⟨i, hi, e⟩ := List.getElem_of_mem hs
    have := h2 i hi
    rwa [show ls.getD i ByteArray.empty = s by simp [List.getD, hi, e]] at this
  have hb : covB L ls = true := List.all_eq_true.2 fun s hs => by
    obtain ⟨i, hi, e⟩ := List.getElem_of_mem hs
    have := h3 i hi
    rw [show L.getD i ByteArray.empty = s by simp [List.getD, hi, e]] at this
    exact decide_eq_true this
  rw [ha, hb]; rfl
theorem cov_t {l ls L : List ByteArray} {u : ByteArray} (hL : L = selK l u (lvf l u)) (h1 : ¬ (L.length = 0 ∨ L.length < ls.length)) (h2 : ∀ i, i < ls.length → (wi (ls.getD i ByteArray.empty) u && Lib.containsS l (ls.getD i ByteArray.empty)) = true) (h3 : ∀ i, i < L.length → cntW (L.getD i ByteArray.empty) ls = 1) : cov l u ls = true := by
  rw [← cov_eq, ← hL, if_neg h1, cov_ab h2 h3]
theorem cov_t2 {l ls L : List ByteArray} {u : ByteArray} (hL : L = selK l u (lvf l u)) (h1 : kn l u = true) (h2 : ∀ i, i < ls.length → (wi (ls.getD i ByteArray.empty) u && Lib.containsS l (ls.getD i ByteArray.empty)) = true) (h3 : ∀ i, i < L.length → cntW (L.getD i ByteArray.empty) ls = 1) : cov l u ls = true := by
  unfold cov
  rw [← hL, h1, cov_ab h2 h3]; rfl

set_option maxHeartbeats 4000000 in
theorem withinOne_v (x : ByteArray) (lo : Option Addr) (lc : Nat) (ls : List ByteArray) (w : World) (h : RdS w lo lc ls) (hl : ls.length ≤ 1000) (hev : ErrV w) :
    Calls Tryd.prog 40 #[.string x, .slice lo ls.length lc] w fun e w' => e = .returned (.bool (decide (cntW x ls = 1))) ∧ Below w.heap.size w w' := by
  have HR := Lib.hid h
  have HE := Lib.hid hev
  obtain ⟨n, hn⟩ : ∃ n, n = ls.length := ⟨_, rfl⟩
  have HN := Lib.hid hn
  have hnc : n ≤ lc := by have := h.1; rw [strs_length] at this; omega
  have hnc2 := h.2.1
  have HW := Lib.hid (fun s w h => Within_v x s w h)
  rw [← hn] at hl ⊢
  clear h hev hn
  go_enter Tryd.func40, Tryd.ntmps40
  go_wp2_with fail
  go_loopw [5, 10] (fun s5 s10 wr => ∃ i k : Nat, i ≤ n ∧ k ≤ i ∧ s10 = .int .i64 (i : Int) ∧ s5 = .int .i64 (k : Int) ∧ Hid (k = cntW x (ls.take i)) ∧ Hid (Below w.heap.size w wr)) (fun _ s10 _ => n - (intOf s10).toNat)
  case atStart => exact ⟨0, 0, by omega, by omega, rfl, rfl, rfl, Below.refl _ _⟩
  case round =>
    obtain ⟨i, k, hin, hki, rfl, rfl, hk, hbl⟩ := hrel
    by_cases hlt : i < n
    · have hlt2 : (i : Int) < (n : Int) := by omega
      have hil : i < ls.length := by have := HN.out; omega
      obtain ⟨b, o, rfl, hx⟩ := (HR.out.below hbl.out).atS (i := i) hil
      obtain ⟨s, hs⟩ : ∃ s, s = ls.getD i ByteArray.empty := ⟨_, rfl⟩
      rw [← hs] at hx
      cases hw : wi x s with
      | true =>
        have HK : Hid (k + 1 = cntW x (ls.take (i + 1))) := by unfold Hid; rw [cntW_yes hil (by rw [← hs]; exact hw), hk.out]
        have HWs : Hid (∀ w, ErrV w → Calls Tryd.prog 35 #[.string x, .string s] w fun e w' => e = .returned (.bool true) ∧ Below w.heap.size w w') := fun w h => by have := HW.out s w h; rwa [hw] at this
        clear hs hw
        go_wp2_with fail
        refine (HWs.out _ (HE.out.below hbl.out)).mono ?_; rintro e w2 ⟨rfl, hb2⟩
        have HB2 := Lib.hid (keep hbl.out hb2)
        clear hb2
        go_wp2_with fail
        go_roundw
        case rel => exact ⟨i + 1, k + 1, by omega, by omega, by go_num, by go_num, HK, HB2⟩
        case measure => simp [intOf]; omega
      | false =>
        have HK : Hid (k = cntW x (ls.take (i + 1))) := by unfold Hid; rw [cntW_no hil (by rw [← hs]; exact hw), hk.out]
        have HWs : Hid (∀ w, ErrV w → Calls Tryd.prog 35 #[.string x, .string s] w fun e w' => e = .returned (.bool false) ∧ Below w.heap.size w w') := fun w h => by have := HW.out s w h; rwa [hw] at this
        clear hs hw
        go_wp2_with fail
        refine (HWs.out _ (HE.out.below hbl.out)).mono ?_; rintro e w2 ⟨rfl, hb2⟩
        have HB2 := Lib.hid (keep hbl.out hb2)
        clear hb2
        go_wp2_with fail
        go_roundw
        case rel => exact ⟨i + 1, k, by omega, by omega, by go_num, rfl, HK, HB2⟩
        case measure => simp [intOf]; omega
    · obtain rfl : i = n := by omega
      have hlt2 : ¬ (i : Int) < (i : Int) := by omega
      have HK : Hid (((k : Int) == 1) = decide (cntW x ls = 1)) := by
        have h1 := hk.out
        rw [List.take_of_length_le (by have := HN.out; omega)] at h1
        unfold Hid
        rw [← h1]
        by_cases h2 : k = 1
        · rw [h2]; rfl
        · rw [decide_eq_false h2]; exact beq_eq_false_iff_ne.2 (by omega)
      go_wp2_with fail
      go_ret
      exact ⟨ret_bool HK.out, hbl.out⟩

set_option maxHeartbeats 8000000 in
set_option maxRecDepth 100000 in
theorem Cover_v (nm : ByteArray) (ao : Option Addr) (cap : Nat) (l : List ByteArray) (u : ByteArray) (lo : Option Addr) (lc : Nat) (ls : List ByteArray) (w : World) (h : RdS w ao cap l) (hl : l.length ≤ 1000) (hls : RdS w lo lc ls) (hl2 : ls.length ≤ 1000) (hev : ErrV w) :
    Calls Tryd.prog 20 #[.agg #[.string nm, .slice ao l.length cap], .string u, .slice lo ls.length lc] w fun e w' => e = .returned (.bool (cov l u ls)) ∧ Below w.heap.size w w' := by
  have b1 := below_new w (.cells #[.string nm, .slice ao l.length cap] 24)
  have k1 := Cls.new w nm ao l.length cap
  obtain ⟨W1, hW1⟩ : ∃ W1, W1 = w.alloc (.cells #[.string nm, .slice ao l.length cap] 24) := ⟨_, rfl⟩
  rw [← hW1] at b1 k1
  have q0 := k1.c0
  have q1 := k1.c1
  have K1 := Lib.hid k1
  have B1 := Lib.hid b1
  have HR := Lib.hid h
  have HS := Lib.hid hls
  have HE := Lib.hid hev
  obtain ⟨L, hL⟩ : ∃ L, L = selK l u (lvf l u) := ⟨_, rfl⟩
  obtain ⟨m, hm⟩ : ∃ m, m = L.length := ⟨_, rfl⟩
  have HLl : Hid (L.length ≤ l.length) := by
    unfold Hid
    rw [hL]
    unfold selK
    split
    · unfold selT
      rw [List.length_map]
      exact Nat.le_trans (List.length_filter_le _ _) (by rw [List.length_range]; exact Nat.le_refl _)
    · simp
  obtain ⟨n, hn⟩ : ∃ n, n = ls.length := ⟨_, rfl⟩
  have hnc : n ≤ lc := by have := hls.1; rw [strs_length] at this; omega
  have hnc2 := hls.2.1
  have hmL : m ≤ 1000 := by have := HLl.out; omega
  have hcc : l.length ≤ cap := by have := h.1; rw [strs_length] at this; omega
  have hcc2 := h.2.1
  have hLV : ∀ w', Below w.heap.size w w' → Calls Tryd.prog 16 #[.agg #[.string nm, .slice ao l.length cap], .string u] w' fun e w2 => ∃ a c, e = .returned (.slice a m c) ∧ RdS w2 a c L ∧ Below w'.heap.size w' w2 := fun w' hb => by
    have := Leaves_v nm ao cap l u w' (h.below hb) hl (hev.below hb)
    rw [← hL] at this
    exact this.mono fun e w2 hp => hp.row hm.symm
  have hWO : ∀ x w', Below w.heap.size w w' → Calls Tryd.prog 40 #[.string x, .slice lo n lc] w' fun e w2 => e = .returned (.bool (decide (cntW x ls = 1))) ∧ Below w'.heap.size w' w2 := fun x w' hb => by
    rw [hn]
    exact withinOne_v x lo lc ls w' (hls.below hb) hl2 (hev.below hb)
  have F1 : Hid (m = 0 ∨ m < n → cov l u ls = false) := fun h => cov_f1 hL (by omega)
  have F2 : Hid (∀ i, i < n → (wi (ls.getD i ByteArray.empty) u && Lib.containsS l (ls.getD i ByteArray.empty)) = false → cov l u ls = false) := fun i hi h => cov_f2 (by omega) h
  have F3 : Hid (∀ i, i < m → cntW (L.getD i ByteArray.empty) ls ≠ 1 → cov l u ls = false) := fun i hi h => cov_f3 hL (by omega) h
  have F4 : Hid (¬ (m = 0 ∨ m < n) → (∀ i, i < n → (wi (ls.getD i ByteArray.empty) u && Lib.containsS l (ls.getD i ByteArray.empty)) = true) → (∀ i, i < m → cntW (L.getD i ByteArray.empty) ls = 1) → cov l u ls = true) := fun h1 h2 h3 => cov_t hL (by omega) (fun i hi => h2 i (by omega)) (fun i hi => h3 i (by omega))
  obtain ⟨CV, hCV⟩ : ∃ b, b = cov l u ls := ⟨_, rfl⟩
  have HCT : Hid (∀ w s, RdS w ao cap l → Calls Tryd.prog 39 #[.slice ao l.length cap, .string s] w fun e w' => e = .returned (.bool (Lib.containsS l s)) ∧ w' = w) := fun w s h => contains_v ao cap l s w h
  unfold Hid at F1 F2 F3 F4
  rw [← hCV] at F1 F2 F3 F4 ⊢
  have G1 := Lib.hid F1
  have G2 := Lib.hid F2
  have G3 := Lib.hid F3
  have G4 := Lib.hid F4
  have HLV := Lib.hid hLV
  have HWO := Lib.hid hWO
  have HM := Lib.hid hm
  have HN := Lib.hid hn
  have HW := Lib.hid (fun s w h => Within_v s u w h)
  obtain ⟨ln, hln⟩ : ∃ n, n = l.length := ⟨_, rfl⟩
  unfold Hid at K1 HLV HCT
  rw [← hln] at hW1 K1 q1 HLV HCT hcc ⊢
  have K1' := Lib.hid K1
  have HLV' := Lib.hid HLV
  have HCT' := Lib.hid HCT
  rw [← hn]
  obtain ⟨g, hg⟩ : ∃ g, g = w.heap.size := ⟨_, rfl⟩
  have HG := Lib.hid hg
  rw [← hg] at q0 q1
  unfold Hid at K1'
  rw [← hg] at K1'
  have K1'' := Lib.hid K1'
  rw [hW1] at q0 q1
  clear h hl hls hl2 hev b1 k1 K1 K1' hL hm hn hLV hWO F1 F2 F3 F4 hCV HLV HCT hln HLl
  go_enter Tryd.func20, Tryd.ntmps20
  go_wp2_with fail
  rw [← hW1, ← hg]
  clear q0 q1 hW1 hg
  refine (HLV'.out W1 B1.out).mono ?_; rintro e w2 ⟨a2, c2, rfl, hr2, hb2⟩
  have HB2 := Lib.hid (keep B1.out hb2)
  have HR2 := Lib.hid hr2
  have HK2 := Lib.hid (K1''.out.below hb2)
  have hm2 : m ≤ c2 := by have := hr2.1; rw [strs_length] at this; have := HM.out; omega
  have hm22 := hr2.2.1
  clear hr2 hb2
  by_cases h0 : m = 0
  · have hm0I : ((m : Int) == 0) = true := by rw [h0]; rfl
    have HX : Hid (false = CV) := (G1.out (.inl h0)).symm
    go_wp2_with fail
    go_ret
    exact ⟨ret_bool HX.out, HB2.out⟩
  · have hm0I : ((m : Int) == 0) = false := by simp; omega
    by_cases hgt : m < n
    · have hgtI : (m : Int) < (n : Int) := by omega
      have HX : Hid (false = CV) := (G1.out (.inr hgt)).symm
      go_wp2_with fail
      go_ret
      exact ⟨ret_bool HX.out, HB2.out⟩
    · have hgtI : ¬ (m : Int) < (n : Int) := by omega
      have HNO : Hid (¬ (m = 0 ∨ m < n)) := by unfold Hid; omega
      go_wp2_with fail
      go_loopw [27] (fun s27 wr => ∃ i : Nat, i ≤ n ∧ s27 = .int .i64 (i : Int) ∧ Hid (∀ j, j < i → (wi (ls.getD j ByteArray.empty) u && Lib.containsS l (ls.getD j ByteArray.empty)) = true) ∧ Hid (Below w2.heap.size w2 wr)) (fun s27 _ => n - (intOf s27).toNat)
      case atStart => exact ⟨0, by omega, rfl, fun j hj => by omega, Below.refl _ _⟩
      case round =>
        obtain ⟨i, hin, rfl, hpre, hbl⟩ := hrel
        by_cases hlt : i < n
        · have hlt2 : (i : Int) < (n : Int) := by omega
          have hil : i < ls.length := by have := HN.out; omega
          have hbw := keep HB2.out hbl.out
          obtain ⟨b, o, rfl, hx⟩ := (HS.out.below hbw).atS (i := i) hil
          obtain ⟨s, hs⟩ : ∃ s, s = ls.getD i ByteArray.empty := ⟨_, rfl⟩
          rw [← hs] at hx
          have HBW := Lib.hid hbw
          clear hbw
          cases hw : wi s u with
          | false =>
            have HX : Hid (false = CV) := (G2.out i hlt (by rw [← hs, hw]; rfl)).symm
            have HWs : Hid (∀ w, ErrV w → Calls Tryd.prog 35 #[.string s, .string u] w fun e w' => e = .returned (.bool false) ∧ Below w.heap.size w w') := fun w h => by have := HW.out s w h; rwa [hw] at this
            clear hs hw
            go_wp2_with fail
            refine (HWs.out _ (HE.out.below HBW.out)).mono ?_; rintro e w3 ⟨rfl, hb3⟩
            have HB3 := Lib.hid (keep HBW.out hb3)
            clear hb3
            go_wp2_with fail
            go_ret
            exact ⟨ret_bool HX.out, HB3.out⟩
          | true =>
            have HWs : Hid (∀ w, ErrV w → Calls Tryd.prog 35 #[.string s, .string u] w fun e w' => e = .returned (.bool true) ∧ Below w.heap.size w w') := fun w h => by have := HW.out s w h; rwa [hw] at this
            cases hc : Lib.containsS l s with
            | false =>
              have HX : Hid (false = CV) := (G2.out i hlt (by rw [← hs, hw, hc]; rfl)).symm
              have HCs : Hid (∀ w, RdS w ao cap l → Calls Tryd.prog 39 #[.slice ao ln cap, .string s] w fun e w' => e = .returned (.bool false) ∧ w' = w) := fun w h => by have := HCT'.out w s h; rwa [hc] at this
              clear hs hw hc
              go_wp2_with fail
              refine (HWs.out _ (HE.out.below HBW.out)).mono ?_; rintro e w3 ⟨rfl, hb3⟩
              have q1 := ((HK2.out.below hbl.out).below hb3).c1
              have HB3 := Lib.hid (keep HBW.out hb3)
              clear hb3
              go_wp2_with fail
              refine (HCs.out _ (HR.out.below HB3.out)).mono ?_; rintro e w4 ⟨rfl, rfl⟩
              go_wp2_with fail
              go_ret
              exact ⟨ret_bool HX.out, HB3.out⟩
            | true =>
              have HX : Hid (∀ j, j < i + 1 → (wi (ls.getD j ByteArray.empty) u && Lib.containsS l (ls.getD j ByteArray.empty)) = true) := fun j hj => by
                by_cases hji : j < i
                · exact hpre.out j hji
                · obtain rfl : j = i := by omega
                  rw [← hs, hw, hc]; rfl
              have HCs : Hid (∀ w, RdS w ao cap l → Calls Tryd.prog 39 #[.slice ao ln cap, .string s] w fun e w' => e = .returned (.bool true) ∧ w' = w) := fun w h => by have := HCT'.out w s h; rwa [hc] at this
              clear hs hw hc
              go_wp2_with fail
              refine (HWs.out _ (HE.out.below HBW.out)).mono ?_; rintro e w3 ⟨rfl, hb3⟩
              have q1 := ((HK2.out.below hbl.out).below hb3).c1
              have HB3 := Lib.hid (keep HBW.out hb3)
              have HBL := Lib.hid (keep hbl.out hb3)
              clear hb3
              go_wp2_with fail
              refine (HCs.out _ (HR.out.below HB3.out)).mono ?_; rintro e w4 ⟨rfl, rfl⟩
              go_wp2_with fail
              go_roundw
              case rel => exact ⟨i + 1, by omega, by go_num, HX, HBL⟩
              case measure => simp [intOf]; omega
        · obtain rfl : i = n := by omega
          have hlt2 : ¬ (i : Int) < (i : Int) := by omega
          have HR3 := Lib.hid (HR2.out.below hbl.out)
          have HB3 := Lib.hid (keep HB2.out hbl.out)
          go_wp2_with fail
          go_loopw [45] (fun s45 wq => ∃ k : Nat, k ≤ m ∧ s45 = .int .i64 (k : Int) ∧ Hid (∀ j, j < k → cntW (L.getD j ByteArray.empty) ls = 1) ∧ Hid (Below wr.heap.size wr wq)) (fun s45 _ => m - (intOf s45).toNat)
          case atStart => exact ⟨0, by omega, rfl, fun j hj => by omega, Below.refl _ _⟩
          case round =>
            obtain ⟨k, hkm, rfl, hpk, hbk⟩ := hrel
            by_cases hlk : k < m
            · have hlk2 : (k : Int) < (m : Int) := by omega
              obtain ⟨b, o, rfl, hx⟩ := (HR3.out.below hbk.out).atS (i := k) (by have := HM.out; omega)
              obtain ⟨x, hxe⟩ : ∃ x, x = L.getD k ByteArray.empty := ⟨_, rfl⟩
              rw [← hxe] at hx
              have HBK := Lib.hid (keep HB3.out hbk.out)
              by_cases hc : cntW x ls = 1
              · have HX : Hid (∀ j, j < k + 1 → cntW (L.getD j ByteArray.empty) ls = 1) := fun j hj => by
                  by_cases hji : j < k
                  · exact hpk.out j hji
                  · obtain rfl : j = k := by omega
                    rw [← hxe]; exact hc
                have HWx := Lib.hid (HWO.out x _ HBK.out)
                unfold Hid at HWx
                rw [decide_eq_true hc] at HWx
                have HWx' := Lib.hid HWx
                clear HWx hxe hc
                go_wp2_with fail
                refine HWx'.out.mono ?_; rintro e w5 ⟨rfl, hb5⟩
                have HB5 := Lib.hid (keep hbk.out hb5)
                clear hb5
                go_wp2_with fail
                go_roundw
                case rel => exact ⟨k + 1, by omega, by go_num, HX, HB5⟩
                case measure => simp [intOf]; omega
              · have HX : Hid (false = CV) := (G3.out k hlk (by rw [← hxe]; exact hc)).symm
                have HWx := Lib.hid (HWO.out x _ HBK.out)
                unfold Hid at HWx
                rw [decide_eq_false hc] at HWx
                have HWx' := Lib.hid HWx
                clear HWx hxe hc
                go_wp2_with fail
                refine HWx'.out.mono ?_; rintro e w5 ⟨rfl, hb5⟩
                have HB5 := Lib.hid (keep HBK.out hb5)
                clear hb5
                go_wp2_with fail
                go_ret
                exact ⟨ret_bool HX.out, HB5.out⟩
            · obtain rfl : k = m := by omega
              have hlk2 : ¬ (k : Int) < (k : Int) := by omega
              have HX : Hid (true = CV) := (G4.out HNO.out hpre.out hpk.out).symm
              have HBK := Lib.hid (keep HB3.out hbk.out)
              go_wp2_with fail
              go_ret
              exact ⟨ret_bool HX.out, HBK.out⟩
end Go.Proofs.YtkodfmpaeemaiaaDoor.C6
