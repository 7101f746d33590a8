import Derived.Test.YtejcdgkcmbmbmaaDoorTwo
import Derived.Test.YtejcdgkcmbmbmaaDoorClsT
/- ClassificationMeets for all inputs: Common is the greatest lower bound. -/
namespace Go.Proofs.YtejcdgkcmbmbmaaDoor.C6
open Go.RowKit Go.Sort

set_option maxHeartbeats 8000000 in
set_option maxRecDepth 100000 in
theorem ClassificationMeets_any (ao : Option Addr) (ts : List Int) (cap : Nat) (w : World) (hr : RdZ w ao cap ts) (hev : ErrV w) :
    Calls Tryd.prog 8 #[.slice ao ts.length cap] w fun e w' => e = .returned (.bool true) ∧ Below w.heap.size w w' := by
  have b1 := below_new w (.cells #[.slice ao ts.length cap, .int .i64 0] 26)
  have hT := Tap.new w ao ts.length cap
  have hR := hr.below b1
  have hB := hr.lt
  obtain ⟨W1, hW1⟩ : ∃ W1, W1 = w.alloc (.cells #[.slice ao ts.length cap, .int .i64 0] 26) := ⟨_, rfl⟩
  rw [← hW1] at b1 hT hR
  obtain ⟨B, hBB⟩ : ∃ B, B = w.heap.size := ⟨_, rfl⟩
  have hB1 : W1.heap.size = B + 1 := by rw [hW1, hBB]; simp
  rw [← hBB] at hT hB
  obtain ⟨n, hn⟩ : ∃ n, n = ts.length := ⟨_, rfl⟩
  have HCode : Hid (∀ i w', i ≤ 900 → Below w.heap.size w w' → RdZ w' ao cap ts → Tap w' B ao n cap i → Calls Tryd.prog 14 #[.pointer (some ⟨B, 0, none⟩)] w' fun e w2 => ∃ s : ByteArray, e = .returned (.string s) ∧ s.size ≤ 14 ∧ Below w.heap.size w w2 ∧ RdZ w2 ao cap ts ∧ ∃ j, j ≤ i + 6 ∧ Tap w2 B ao n cap j) := fun i w' hi hb hrr ht => by
    rw [hn] at ht
    refine (code_v B ao cap ts i w' ht hrr hB hi).mono ?_
    rintro e w2 ⟨s, he, hs, hg, j, _, hj, hj2⟩
    have hle : B ≤ w'.heap.size := Nat.le_of_lt ht.lt
    refine ⟨s, he, hs, hb.trans (by rw [← hBB]; exact gb_below hg hle), hrr.gb hB hle hg, j, hj, by rw [hn]; exact hj2⟩
  have HT : Hid (Tap W1 B ao n cap 0) := by rw [hn]; exact hT
  have HR := Lib.hid hR
  have HB1 := Lib.hid b1
  have HE := Lib.hid hev
  rw [← hn] at hW1 ⊢
  clear hr hev b1 hT hR hB hn
  go_enter Tryd.func8, Tryd.ntmps8
  go_wp2_with fail
  rw [← hW1, ← hBB]
  clear hW1 hBB
  refine (HCode.out 0 _ (by omega) HB1.out HR.out HT.out).mono ?_; rintro e w2 ⟨a, rfl, ha, bb1, rr1, j1, hj1, tt1⟩
  have HB2 := Lib.hid bb1
  have HR2 := Lib.hid rr1
  have HT2 := Lib.hid tt1
  clear bb1 rr1 tt1
  go_wp2_with fail
  refine (HCode.out j1 _ (by omega) HB2.out HR2.out HT2.out).mono ?_; rintro e w3 ⟨b, rfl, hb, bb2, rr2, j2, hj2, tt2⟩
  have HB3 := Lib.hid bb2
  have HR3 := Lib.hid rr2
  have HT3 := Lib.hid tt2
  clear bb2 rr2 tt2
  go_wp2_with fail
  refine (HCode.out j2 _ (by omega) HB3.out HR3.out HT3.out).mono ?_; rintro e w4 ⟨c, rfl, hc, bb3, rr3, j3, hj3, tt3⟩
  have HB4 := Lib.hid bb3
  have HR4 := Lib.hid rr3
  have HT4 := Lib.hid tt3
  clear bb3 rr3 tt3
  go_wp2_with fail
  have M := Lib.hid (fun w h => Common_v a b w h)
  have LA := Lib.hid (fun w h => Level_v a w h)
  have LB := Lib.hid (fun w h => Level_v b w h)
  obtain ⟨m, hm⟩ : ∃ m, m = com a b := ⟨_, rfl⟩
  have WAM := Lib.hid (fun w h => Within_v a m w h)
  have WBM := Lib.hid (fun w h => Within_v b m w h)
  have WAC := Lib.hid (fun w h => Within_v a c w h)
  have WBC := Lib.hid (fun w h => Within_v b c w h)
  have WMC := Lib.hid (fun w h => Within_v m c w h)
  have WAB := Lib.hid (fun w h => Within_v a b w h)
  have CBA := Lib.hid (fun w h => Compare_v b a w h)
  obtain ⟨la, hla⟩ : ∃ x, x = lev a := ⟨_, rfl⟩
  obtain ⟨lb, hlb⟩ : ∃ x, x = lev b := ⟨_, rfl⟩
  obtain ⟨am, ham⟩ : ∃ x, x = wi a m := ⟨_, rfl⟩
  obtain ⟨bm, hbm⟩ : ∃ x, x = wi b m := ⟨_, rfl⟩
  obtain ⟨ac, hac⟩ : ∃ x, x = wi a c := ⟨_, rfl⟩
  obtain ⟨bc, hbc⟩ : ∃ x, x = wi b c := ⟨_, rfl⟩
  obtain ⟨mc, hmc⟩ : ∃ x, x = wi m c := ⟨_, rfl⟩
  obtain ⟨ab, hab⟩ : ∃ x, x = wi a b := ⟨_, rfl⟩
  obtain ⟨cb, hcb⟩ : ∃ x, x = cmpS b a := ⟨_, rfl⟩
  have F1 : 0 ≤ la → 0 ≤ lb → am = true ∧ bm = true := fun h1 h2 => by
    obtain ⟨p, hp⟩ := lev_ge (by rw [← hla]; exact h1)
    obtain ⟨q, hq⟩ := lev_ge (by rw [← hlb]; exact h2)
    exact ⟨by rw [ham, hm]; exact wi_left hp hq, by rw [hbm, hm]; exact wi_right hp hq⟩
  have F2 : ac = true → bc = true → mc = true := fun h1 h2 => by
    rw [hmc, hm]; exact wi_com (by rw [← hac]; exact h1) (by rw [← hbc]; exact h2)
  have F3 : ab = true → cb ≤ 0 := fun h => by rw [hcb]; exact wi_cmp (by rw [← hab]; exact h)
  unfold Hid at M LA LB WAM WBM WAC WBC WMC WAB CBA
  rw [← hm] at M
  rw [← hla] at LA
  rw [← hlb] at LB
  rw [← ham] at WAM
  rw [← hbm] at WBM
  rw [← hac] at WAC
  rw [← hbc] at WBC
  rw [← hmc] at WMC
  rw [← hab] at WAB
  rw [← hcb] at CBA
  have M' := Lib.hid M
  have LA' := Lib.hid LA
  have LB' := Lib.hid LB
  have AM' := Lib.hid WAM
  have BM' := Lib.hid WBM
  have AC' := Lib.hid WAC
  have BC' := Lib.hid WBC
  have MC' := Lib.hid WMC
  have AB' := Lib.hid WAB
  have CB' := Lib.hid CBA
  have G1 := Lib.hid F1
  have G2 := Lib.hid F2
  have G3 := Lib.hid F3
  clear M LA LB WAM WBM WAC WBC WMC WAB CBA hm hla hlb ham hbm hac hbc hmc hab hcb F1 F2 F3 ha hb hc hj1 hj2 hj3
  refine (M'.out _ (HE.out.below HB4.out)).mono ?_; rintro e v1 ⟨rfl, cD1⟩
  have D1 := Lib.hid (keep HB4.out cD1)
  clear cD1
  by_cases h1 : 0 ≤ la
  · go_wp2_with fail
    refine (LA'.out _ (HE.out.below D1.out)).mono ?_; rintro e v2 ⟨rfl, cD2⟩
    have D2 := Lib.hid (keep D1.out cD2)
    clear cD2
    by_cases h2 : 0 ≤ lb
    · obtain ⟨rfl, rfl⟩ := G1.out h1 h2
      go_wp2_with fail
      refine (LB'.out _ (HE.out.below D2.out)).mono ?_; rintro e v3 ⟨rfl, cD3⟩
      have D3 := Lib.hid (keep D2.out cD3)
      clear cD3
      go_wp2_with fail
      refine (AM'.out _ (HE.out.below D3.out)).mono ?_; rintro e v4 ⟨rfl, cD4⟩
      have D4 := Lib.hid (keep D3.out cD4)
      clear cD4
      go_wp2_with fail
      refine (BM'.out _ (HE.out.below D4.out)).mono ?_; rintro e v5 ⟨rfl, cD5⟩
      have D5 := Lib.hid (keep D4.out cD5)
      clear cD5
      cases ac
      · go_wp2_with fail
        refine (AC'.out _ (HE.out.below D5.out)).mono ?_; rintro e v6 ⟨rfl, cD6⟩
        have D6 := Lib.hid (keep D5.out cD6)
        clear cD6
        by_cases hab : ab = true
        · subst hab
          have h3 := G3.out rfl
          go_wp2_with fail
          refine (AB'.out _ (HE.out.below D6.out)).mono ?_; rintro e u1 ⟨rfl, cE1⟩
          have E1 := Lib.hid (keep D6.out cE1)
          clear cE1
          go_wp2_with fail
          refine (CB'.out _ (HE.out.below E1.out)).mono ?_; rintro e u2 ⟨rfl, cE2⟩
          have E2 := Lib.hid (keep E1.out cE2)
          clear cE2
          go_wp2_with fail
          refine (awake_v _ (HE.out.below E2.out)).mono ?_; rintro e w9 ⟨rfl, b9⟩
          have BE := Lib.hid (keep E2.out b9)
          clear b9
          go_wp2_with fail
          go_ret
          exact ⟨rfl, BE.out⟩
        · obtain rfl : ab = false := by simpa using hab
          clear hab
          go_wp2_with fail
          refine (AB'.out _ (HE.out.below D6.out)).mono ?_; rintro e u1 ⟨rfl, cE1⟩
          have E1 := Lib.hid (keep D6.out cE1)
          clear cE1
          go_wp2_with fail
          refine (awake_v _ (HE.out.below E1.out)).mono ?_; rintro e w9 ⟨rfl, b9⟩
          have BE := Lib.hid (keep E1.out b9)
          clear b9
          go_wp2_with fail
          go_ret
          exact ⟨rfl, BE.out⟩
      · go_wp2_with fail
        refine (AC'.out _ (HE.out.below D5.out)).mono ?_; rintro e v6 ⟨rfl, cD6⟩
        have D6 := Lib.hid (keep D5.out cD6)
        clear cD6
        cases bc
        · go_wp2_with fail
          refine (BC'.out _ (HE.out.below D6.out)).mono ?_; rintro e v7 ⟨rfl, cD7⟩
          have D7 := Lib.hid (keep D6.out cD7)
          clear cD7
          by_cases hab : ab = true
          · subst hab
            have h3 := G3.out rfl
            go_wp2_with fail
            refine (AB'.out _ (HE.out.below D7.out)).mono ?_; rintro e u1 ⟨rfl, cE1⟩
            have E1 := Lib.hid (keep D7.out cE1)
            clear cE1
            go_wp2_with fail
            refine (CB'.out _ (HE.out.below E1.out)).mono ?_; rintro e u2 ⟨rfl, cE2⟩
            have E2 := Lib.hid (keep E1.out cE2)
            clear cE2
            go_wp2_with fail
            refine (awake_v _ (HE.out.below E2.out)).mono ?_; rintro e w9 ⟨rfl, b9⟩
            have BE := Lib.hid (keep E2.out b9)
            clear b9
            go_wp2_with fail
            go_ret
            exact ⟨rfl, BE.out⟩
          · obtain rfl : ab = false := by simpa using hab
            clear hab
            go_wp2_with fail
            refine (AB'.out _ (HE.out.below D7.out)).mono ?_; rintro e u1 ⟨rfl, cE1⟩
            have E1 := Lib.hid (keep D7.out cE1)
            clear cE1
            go_wp2_with fail
            refine (awake_v _ (HE.out.below E1.out)).mono ?_; rintro e w9 ⟨rfl, b9⟩
            have BE := Lib.hid (keep E1.out b9)
            clear b9
            go_wp2_with fail
            go_ret
            exact ⟨rfl, BE.out⟩
        · obtain rfl := G2.out (by first | rfl | trivial) (by first | rfl | trivial)
          go_wp2_with fail
          refine (BC'.out _ (HE.out.below D6.out)).mono ?_; rintro e v7 ⟨rfl, cD7⟩
          have D7 := Lib.hid (keep D6.out cD7)
          clear cD7
          go_wp2_with fail
          refine (MC'.out _ (HE.out.below D7.out)).mono ?_; rintro e v8 ⟨rfl, cD8⟩
          have D8 := Lib.hid (keep D7.out cD8)
          clear cD8
          by_cases hab : ab = true
          · subst hab
            have h3 := G3.out rfl
            go_wp2_with fail
            refine (AB'.out _ (HE.out.below D8.out)).mono ?_; rintro e u1 ⟨rfl, cE1⟩
            have E1 := Lib.hid (keep D8.out cE1)
            clear cE1
            go_wp2_with fail
            refine (CB'.out _ (HE.out.below E1.out)).mono ?_; rintro e u2 ⟨rfl, cE2⟩
            have E2 := Lib.hid (keep E1.out cE2)
            clear cE2
            go_wp2_with fail
            refine (awake_v _ (HE.out.below E2.out)).mono ?_; rintro e w9 ⟨rfl, b9⟩
            have BE := Lib.hid (keep E2.out b9)
            clear b9
            go_wp2_with fail
            go_ret
            exact ⟨rfl, BE.out⟩
          · obtain rfl : ab = false := by simpa using hab
            clear hab
            go_wp2_with fail
            refine (AB'.out _ (HE.out.below D8.out)).mono ?_; rintro e u1 ⟨rfl, cE1⟩
            have E1 := Lib.hid (keep D8.out cE1)
            clear cE1
            go_wp2_with fail
            refine (awake_v _ (HE.out.below E1.out)).mono ?_; rintro e w9 ⟨rfl, b9⟩
            have BE := Lib.hid (keep E1.out b9)
            clear b9
            go_wp2_with fail
            go_ret
            exact ⟨rfl, BE.out⟩
    · have h2' : lb < 0 := by omega
      go_wp2_with fail
      refine (LB'.out _ (HE.out.below D2.out)).mono ?_; rintro e v3 ⟨rfl, cD3⟩
      have D3 := Lib.hid (keep D2.out cD3)
      clear cD3
      by_cases hab : ab = true
      · subst hab
        have h3 := G3.out rfl
        go_wp2_with fail
        refine (AB'.out _ (HE.out.below D3.out)).mono ?_; rintro e u1 ⟨rfl, cE1⟩
        have E1 := Lib.hid (keep D3.out cE1)
        clear cE1
        go_wp2_with fail
        refine (CB'.out _ (HE.out.below E1.out)).mono ?_; rintro e u2 ⟨rfl, cE2⟩
        have E2 := Lib.hid (keep E1.out cE2)
        clear cE2
        go_wp2_with fail
        refine (awake_v _ (HE.out.below E2.out)).mono ?_; rintro e w9 ⟨rfl, b9⟩
        have BE := Lib.hid (keep E2.out b9)
        clear b9
        go_wp2_with fail
        go_ret
        exact ⟨rfl, BE.out⟩
      · obtain rfl : ab = false := by simpa using hab
        clear hab
        go_wp2_with fail
        refine (AB'.out _ (HE.out.below D3.out)).mono ?_; rintro e u1 ⟨rfl, cE1⟩
        have E1 := Lib.hid (keep D3.out cE1)
        clear cE1
        go_wp2_with fail
        refine (awake_v _ (HE.out.below E1.out)).mono ?_; rintro e w9 ⟨rfl, b9⟩
        have BE := Lib.hid (keep E1.out b9)
        clear b9
        go_wp2_with fail
        go_ret
        exact ⟨rfl, BE.out⟩
  · have h1' : la < 0 := by omega
    go_wp2_with fail
    refine (LA'.out _ (HE.out.below D1.out)).mono ?_; rintro e v2 ⟨rfl, cD2⟩
    have D2 := Lib.hid (keep D1.out cD2)
    clear cD2
    by_cases hab : ab = true
    · subst hab
      have h3 := G3.out rfl
      go_wp2_with fail
      refine (AB'.out _ (HE.out.below D2.out)).mono ?_; rintro e u1 ⟨rfl, cE1⟩
      have E1 := Lib.hid (keep D2.out cE1)
      clear cE1
      go_wp2_with fail
      refine (CB'.out _ (HE.out.below E1.out)).mono ?_; rintro e u2 ⟨rfl, cE2⟩
      have E2 := Lib.hid (keep E1.out cE2)
      clear cE2
      go_wp2_with fail
      refine (awake_v _ (HE.out.below E2.out)).mono ?_; rintro e w9 ⟨rfl, b9⟩
      have BE := Lib.hid (keep E2.out b9)
      clear b9
      go_wp2_with fail
      go_ret
      exact ⟨rfl, BE.out⟩
    · obtain rfl : ab = false := by simpa using hab
      clear hab
      go_wp2_with fail
      refine (AB'.out _ (HE.out.below D2.out)).mono ?_; rintro e u1 ⟨rfl, cE1⟩
      have E1 := Lib.hid (keep D2.out cE1)
      clear cE1
      go_wp2_with fail
      refine (awake_v _ (HE.out.below E1.out)).mono ?_; rintro e w9 ⟨rfl, b9⟩
      have BE := Lib.hid (keep E1.out b9)
      clear b9
      go_wp2_with fail
      go_ret
      exact ⟨rfl, BE.out⟩
end Go.Proofs.YtejcdgkcmbmbmaaDoor.C6
