import Derived.Test.YtejcdgkcmbmbmaaDoorTwo
/- ClassificationParts for all inputs: made parts give a code that reads back, its level is their number, and its path has the code at the end. -/
namespace Go.Proofs.YtejcdgkcmbmbmaaDoor.C6
open Go.RowKit Go.Sort

set_option maxHeartbeats 8000000 in
set_option maxRecDepth 100000 in
theorem ClassificationParts_any (ao : Option Addr) (ts : List Int) (cap : Nat) (w : World) (hr : RdZ w ao cap ts) (hev : ErrV w) :
    Calls Tryd.prog 4 #[.slice ao ts.length cap] w fun e w' => e = .returned (.bool true) ∧ Below w.heap.size w w' := by
  obtain ⟨i0, hi, hz0, hz1, hz2⟩ := info_parts infoInt
  have b1 := below_new w (.cells #[.slice ao ts.length cap, .int .i64 0] 26)
  have hT := Tap.new w ao ts.length cap
  have hR := hr.below b1
  have hB := hr.lt
  obtain ⟨W1, hW1⟩ : ∃ W1, W1 = w.alloc (.cells #[.slice ao ts.length cap, .int .i64 0] 26) := ⟨_, rfl⟩
  rw [← hW1] at b1 hT hR
  obtain ⟨B, hBB⟩ : ∃ B, B = w.heap.size := ⟨_, rfl⟩
  have hB1 : W1.heap.size = B + 1 := by rw [hW1, hBB]; simp
  rw [← hBB] at b1 hT hB
  have HT := Lib.hid hT
  have HR := Lib.hid hR
  have HTB : Hid (0 < (intz ts).length → ∀ b o, ao = some ⟨b, o, none⟩ → b < B) := hB
  have HB1 := Lib.hid b1
  have HE := Lib.hid hev
  have HBB := Lib.hid hBB
  clear hr hev b1 hT hR hB
  go_enter Tryd.func4, Tryd.ntmps4
  go_wp2_with fail
  rw [← hW1, ← hBB]
  clear hW1 hBB
  refine (Next_v B ao cap ts 0 5 _ HT.out HR.out (by omega) (by omega) (by omega) 5 rfl).mono ?_; rintro e w2 ⟨r, rfl, hr, g2, z2, t2⟩
  have hT2 := Lib.hid t2
  have hR2 := Lib.hid (HR.out.gb HTB.out (by omega) g2)
  have hB2 := t2.lt
  have HB2 := Lib.hid (HB1.out.trans (gb_below g2 (by omega)))
  clear t2 g2 z2
  obtain ⟨c, hc⟩ : ∃ c, c = 1 + r := ⟨_, rfl⟩
  have hcI : 1 + (r : Int) = (c : Int) := by omega
  have hc5 : c ≤ 5 := by omega
  have hc1 : 1 ≤ c := by omega
  have HCI := Lib.hid hcI
  have hr5 : (r : Int) < 5 := by omega
  clear hcI hc
  go_wp2_with fail
  rw [HCI.out]
  go_loopw [4, 18] (fun s4 s18 wr => ∃ (k : Nat) (p : List Nat) (v4 : Value), k ≤ c ∧ s18 = .int .i64 (k : Int) ∧ v4 = s4 ∧ Hid (p.length = k) ∧ Hid (Ns p) ∧ Hid (wr.ownsRow w2.heap.size 3 1 v4 k (ints p)) ∧ Hid (w2.grownBy wr (some B)) ∧ Hid (Tap wr B ao ts.length cap (1 + k))) (fun _ s18 _ => c - (intOf s18).toNat)
  case atStart => exact ⟨0, [], _, by omega, rfl, rfl, rfl, Ns.nil, World.ownsRow_nil _ _ _ _, gb_drewN _ 0 _, hT2.out⟩
  case round =>
    obtain ⟨k, p, v4, hkc, rfl, rfl, hpl, hns, hown, hgr, htap⟩ := hrel
    by_cases hlt : k < c
    · have hlt2 : (k : Int) < (c : Int) := by omega
      have hszr : w2.heap.size ≤ wr.heap.size := hgr.out.size
      have hR3 := Lib.hid (hR2.out.gb HTB.out (Nat.le_of_lt hB2) hgr.out)
      go_wp2_with fail
      refine (Next_v B ao cap ts (1 + k) 99 _ htap.out hR3.out (by omega) (by omega) (by omega) 99 rfl).mono ?_; rintro e w4 ⟨q, rfl, hq, g4, z4, t4⟩
      have HG4 := Lib.hid (gb_trans hgr.out g4)
      have HT4 := Lib.hid t4
      have HO := Lib.hid (hown.out.kept g4 (row_block hown.out hB2))
      have hsz4 : w2.heap.size ≤ w4.heap.size := HG4.out.size
      have hrows : ∀ k, v4.ownBlock = some k → w2.heap.size ≤ k := fun k e => (HO.out.lt k e).1
      have hq9 : (q : Int) < 99 := by omega
      clear g4 z4 t4
      go_wp2_with (at_builtin; refine wpList_append_own _ rfl _ _ 22 rfl w2.heap.size 3 i0 (.int .i64 0) 1 8 Tryd.underlying22 hi hz0 hz1 hz2 rfl (by omega) _ _ _ rfl (HO.out.alloc _) ⟨w4.heap.size, 0, none⟩ 1 1 [.int .i64 (1 + (q : Int))] rfl rfl (one_cell _ _ _) (by intro u hu; simp at hu; rcases hu with rfl; rfl) (by unfold maxLen; omega) (by omega) (by simp; omega) ?_; intro v5 w5 hown5 hgr5 _)
      have hne5 : ∀ b, b < w2.heap.size → some b ≠ v4.ownBlock := fun b hb e => by have := hrows b e.symm; omega
      have HO5 : Hid (w5.ownsRow w2.heap.size 3 1 v5 (k + 1) (ints (p ++ [1 + q]))) := by unfold Hid; rw [show ints (p ++ [1 + q]) = ints p ++ [.int .i64 (1 + (q : Int))] by simp [ints]]; exact hown5
      have HL5 : Hid ((p ++ [1 + q]).length = k + 1) := by unfold Hid; rw [List.length_append, hpl.out]; rfl
      have HN5 : Hid (Ns (p ++ [1 + q])) := hns.out.append (Ns.mk ⟨by omega, by omega⟩ Ns.nil)
      have HT5 : Hid (Tap w5 B ao ts.length cap (1 + (k + 1))) := Tap.grown (HT4.out.alloc _) hgr5 (hne5 B hB2)
      have HG5 : Hid (w2.grownBy w5 (some B)) := gb_app HG4.out hgr5 hne5
      clear hown5 hgr5
      go_wp2_with fail
      go_roundw
      case rel => exact ⟨k + 1, _, _, by omega, by go_num, rfl, HL5, HN5, HO5, HG5, HT5⟩
      case measure => simp [intOf]; omega
    · obtain rfl : k = c := by omega
      have hlt2 : ¬ (k : Int) < (k : Int) := by omega
      obtain ⟨a3, c3, e3, hrd3, _⟩ := RdV.of_row hown.out
      rw [ints_length, hpl.out] at e3
      subst e3
      have hpts : Pts p := ⟨by have := hpl.out; omega, by have := hpl.out; omega, hns.out⟩
      have hrz : RdZ wr a3 c3 (zz p) := by rw [ints_z] at hrd3; exact hrd3
      have HZ := Lib.hid hrz
      have hF := Format_v a3 c3 (zz p) wr hrz
      rw [zz_length, hpl.out] at hF
      have hF2 : Calls Tryd.prog 18 #[.slice a3 k c3] wr fun e w' => e = .returned (.tuple #[.string (txt p), .int .i64 0]) ∧ wr = w' := hF.mono fun e w' ⟨he, hw⟩ => ⟨fmt_txt hpts he, hw⟩
      have F := Lib.hid hF2
      have HPts := Lib.hid hpts
      have HBr := Lib.hid (HB2.out.trans (gb_below hgr.out (Nat.le_of_lt hB2)))
      have hBw : B ≤ w.heap.size := Nat.le_of_eq HBB.out
      have HL := Lib.hid hpl.out
      have HPP := Lib.hid (P_txt hpts)
      have HLV : Hid (lev (txt p) = (k : Int)) := by unfold Hid; rw [lev_some (PO_of_P (P_txt hpts)), hpl.out]
      have HPT : Hid (pth (txt p) = prefs p) := pth_some (P_txt hpts)
      obtain ⟨S, hS⟩ : ∃ S, S = txt p := ⟨_, rfl⟩
      rw [← hS] at F HPP HLV HPT
      have HSS := Lib.hid hS
      clear hF hF2 hrd3 hown hpts hS hrz
      go_wp2_with fail
      refine (F.out).mono ?_; rintro e v0 ⟨rfl, rfl⟩
      go_wp2_with fail
      refine (Parse_v S _ (HE.out.below (by have := HBr.out; rw [HBB.out] at this; exact this))).mono ?_; rintro e v1 h1
      rcases h1.cases with ⟨p', a5, c5, hP, _, hys, rfl, hr1, _, c1⟩ | ⟨hP, rfl, c1⟩
      · have : p' = p := Option.some.inj (hP.symm.trans HPP.out)
        subst this
        have D1 := Lib.hid (keepB HBr.out hBw c1)
        have R1 := Lib.hid hr1
        have Z1 := Lib.hid (HZ.out.below c1)
        rw [HL.out]
        clear c1 hP h1 hr1 hys
        go_wp2_with fail
        have EV1 := HE.out.below (show Below w.heap.size w v1 by have := D1.out; rw [HBB.out] at this; exact this)
        have HPV := Path_v S v1 EV1
        refine HPV.mono ?_
        rintro e v2 ⟨z5, rfl, o5, c2⟩
        obtain ⟨a6, c6, rfl, r6, _⟩ := RdV.of_row o5
        rw [HPT.out] at r6
        have D2 := Lib.hid (keepB D1.out hBw c2)
        have R2 := Lib.hid (R1.out.below c2)
        have Z2 := Lib.hid (Z1.out.below c2)
        have PR2 := Lib.hid r6
        have hS := SameInts_v a5 a3 c5 c3 (zz p') (zz p') v2 (by have := R2.out; rw [ints_z] at this; exact this) Z2.out
        rw [decide_eq_true rfl, zz_length, HL.out] at hS
        have SI := Lib.hid hS
        rw [strs_length, HPT.out, prefs_length, HL.out]
        clear c2 o5 r6 hS
        go_wp2_with fail
        refine (SI.out).mono ?_; rintro e v3 ⟨rfl, c3'⟩
        have D3 := Lib.hid (keepB D2.out hBw c3')
        have PR3 := Lib.hid (PR2.out.below c3')
        have LV := Lib.hid (fun w h => Level_v S w h)
        unfold Hid at LV
        rw [HLV.out] at LV
        have LV2 := Lib.hid LV
        clear c3' LV
        go_wp2_with fail
        refine (LV2.out _ (HE.out.below (by have := D3.out; rw [HBB.out] at this; exact this))).mono ?_; rintro e v4' ⟨rfl, c4⟩
        have D4 := Lib.hid (keepB D3.out hBw c4)
        have PR4 := Lib.hid (PR3.out.below c4)
        clear c4
        obtain ⟨k1, hk1⟩ : ∃ k1, k = k1 + 1 := ⟨k - 1, by omega⟩
        obtain ⟨b6, o6, rfl, hcl⟩ := PR4.out.atS (i := k1) (by rw [prefs_length, HL.out]; omega)
        have hlast : (prefs p').getD k1 ByteArray.empty = S := by
          refine (prefs_get (p := p') (i := k1) (by rw [HL.out]; omega)).trans ?_
          rw [HSS.out, List.take_of_length_le (by rw [HL.out]; omega)]
        rw [hlast] at hcl
        have e1 : (k : Int) - 1 = (k1 : Int) := by omega
        have hk1k : k1 < k := by omega
        have hk1I : (k1 : Int) < (k : Int) := by omega
        have HPar : Hid (par S = (txt (p'.take k1), true)) := by
          have : p'.dropLast = p'.take k1 := by rw [List.dropLast_eq_take, HL.out, hk1]; rfl
          unfold Hid par
          rw [HPP.out]
          simp only
          rw [this]
        have hPV := fun w h => Parent_v S w h
        rw [HPar.out] at hPV
        obtain ⟨V, hV⟩ : ∃ V, V = txt (p'.take k1) := ⟨_, rfl⟩
        rw [← hV] at hPV
        have PV := Lib.hid hPV
        have HV := Lib.hid hV
        have HK1 := Lib.hid hk1
        clear hPV hV hk1 hlast
        go_wp2_with fail
        refine (PV.out _ (HE.out.below (show Below w.heap.size w _ by have := D4.out; rw [HBB.out] at this; exact this))).mono ?_; rintro e v5' ⟨rfl, c5'⟩
        have D5 := Lib.hid (keepB D4.out hBw c5')
        have PR5 := Lib.hid (PR4.out.below c5')
        clear c5' hcl
        by_cases hone : k1 = 0
        · have e3 : ((k : Int) == 1) = true := beq_iff_eq.2 (by omega)
          have hVe : V = emp := by rw [HV.out, hone]; rfl
          subst hVe
          clear hone
          go_wp2_with fail
          refine (awake_v _ (HE.out.below (show Below w.heap.size w _ by have := D5.out; rw [HBB.out] at this; exact this))).mono ?_; rintro e w9 ⟨rfl, b9⟩
          have BE := Lib.hid (keepB D5.out hBw b9)
          clear b9
          go_wp2_with fail
          go_ret
          exact ⟨rfl, by have := BE.out; rw [HBB.out] at this; exact this⟩
        · have e3 : ((k : Int) == 1) = false := beq_eq_false_iff_ne.2 (by have := HK1.out; omega)
          obtain ⟨k2, hk2⟩ : ∃ k2, k1 = k2 + 1 := ⟨k1 - 1, by omega⟩
          obtain ⟨b7, o7, e7, hcl⟩ := PR5.out.atS (i := k2) (by rw [prefs_length, HL.out]; omega)
          cases e7
          have hl2 : (prefs p').getD k2 ByteArray.empty = V := by
            refine (prefs_get (p := p') (i := k2) (by rw [HL.out]; omega)).trans ?_
            rw [HV.out, hk2]
          rw [hl2] at hcl
          have e4 : (k : Int) - 2 = (k2 : Int) := by have := HK1.out; omega
          have hk2k : k2 < k := by have := HK1.out; omega
          have hk2I : (k2 : Int) < (k : Int) := by have := HK1.out; omega
          have hvne : (V.toList == V.toList) = true := by simp
          clear hone hk2 hl2
          go_wp2_with fail
          refine (awake_v _ (HE.out.below (show Below w.heap.size w _ by have := D5.out; rw [HBB.out] at this; exact this))).mono ?_; rintro e w9 ⟨rfl, b9⟩
          have BE := Lib.hid (keepB D5.out hBw b9)
          clear b9
          go_wp2_with fail
          go_ret
          exact ⟨rfl, by have := BE.out; rw [HBB.out] at this; exact this⟩
      · exact absurd (HPP.out.symm.trans hP) (by simp)
end Go.Proofs.YtejcdgkcmbmbmaaDoor.C6
