import Derived.Test.YtejcdgkcmbmbmaaDoorTwo
import Derived.Test.YtejcdgkcmbmbmaaDoorClsT
/- ClassificationTotal for all inputs: Compare is a total order. -/
namespace Go.Proofs.YtejcdgkcmbmbmaaDoor.C6
open Go.RowKit Go.Sort

set_option maxHeartbeats 8000000 in
set_option maxRecDepth 100000 in
theorem ClassificationTotal_any (ao : Option Addr) (ts : List Int) (cap : Nat) (w : World) (hr : RdZ w ao cap ts) (hev : ErrV w) :
    Calls Tryd.prog 7 #[.slice ao ts.length cap] w fun e w' => e = .returned (.bool true) ∧ Below w.heap.size w w' := by
  have b1 := below_new w (.cells #[.slice ao ts.length cap, .int .i64 0] 26)
  have hT := Tap.new w ao ts.length cap
  have hR := hr.below b1
  have hB := hr.lt
  obtain ⟨W1, hW1⟩ : ∃ W1, W1 = w.alloc (.cells #[.slice ao ts.length cap, .int .i64 0] 26) := ⟨_, rfl⟩
  rw [← hW1] at b1 hT hR
  obtain ⟨B, hBB⟩ : ∃ B, B = w.heap.size := ⟨_, rfl⟩
  have hB1 : W1.heap.size = B + 1 := by rw [hW1, hBB]; simp
  rw [← hBB] at hT hB
  obtain ⟨n, hn⟩ : ∃ n, n = ts.length := ⟨_, rfl⟩
  have HCode : Hid (∀ i w', i ≤ 900 → Below w.heap.size w w' → RdZ w' ao cap ts → Tap w' B ao n cap i → Calls Tryd.prog 14 #[.pointer (some ⟨B, 0, none⟩)] w' fun e w2 => ∃ s : ByteArray, e = .returned (.string s) ∧ s.size ≤ 14 ∧ Below w.heap.size w w2 ∧ RdZ w2 ao cap ts ∧ ∃ j, j ≤ i + 6 ∧ Tap w2 B ao n cap j) := fun i w' hi hb hrr ht => by
    rw [hn] at ht
    refine (code_v B ao cap ts i w' ht hrr hB hi).mono ?_
    rintro e w2 ⟨s, he, hs, hg, j, _, hj, hj2⟩
    have hle : B ≤ w'.heap.size := Nat.le_of_lt ht.lt
    refine ⟨s, he, hs, hb.trans (by rw [← hBB]; exact gb_below hg hle), hrr.gb hB hle hg, j, hj, by rw [hn]; exact hj2⟩
  have HT : Hid (Tap W1 B ao n cap 0) := by rw [hn]; exact hT
  have HR := Lib.hid hR
  have HB1 := Lib.hid b1
  have HE := Lib.hid hev
  rw [← hn] at hW1 ⊢
  clear hr hev b1 hT hR hB hn
  go_enter Tryd.func7, Tryd.ntmps7
  go_wp2_with fail
  rw [← hW1, ← hBB]
  clear hW1 hBB
  refine (HCode.out 0 _ (by omega) HB1.out HR.out HT.out).mono ?_; rintro e w2 ⟨a, rfl, ha, bb1, rr1, j1, hj1, tt1⟩
  have HB2 := Lib.hid bb1
  have HR2 := Lib.hid rr1
  have HT2 := Lib.hid tt1
  clear bb1 rr1 tt1
  go_wp2_with fail
  refine (HCode.out j1 _ (by omega) HB2.out HR2.out HT2.out).mono ?_; rintro e w3 ⟨b, rfl, hb, bb2, rr2, j2, hj2, tt2⟩
  have HB3 := Lib.hid bb2
  have HR3 := Lib.hid rr2
  have HT3 := Lib.hid tt2
  clear bb2 rr2 tt2
  go_wp2_with fail
  refine (HCode.out j2 _ (by omega) HB3.out HR3.out HT3.out).mono ?_; rintro e w4 ⟨c, rfl, hc, bb3, rr3, j3, hj3, tt3⟩
  have HB4 := Lib.hid bb3
  have HR4 := Lib.hid rr3
  have HT4 := Lib.hid tt3
  clear bb3 rr3 tt3
  go_wp2_with fail
  have C1 := Lib.hid (fun w h => Compare_v a b w h)
  have C2 := Lib.hid (fun w h => Compare_v b c w h)
  have C3 := Lib.hid (fun w h => Compare_v a c w h)
  have C4 := Lib.hid (fun w h => Compare_v b a w h)
  have hA := cmpS_anti a b
  have hbd := cmpS_bd a b
  have hZ := cmpS_zero a b
  have hTr := cmpS_trans a b c
  obtain ⟨x, hx⟩ : ∃ x, x = cmpS a b := ⟨_, rfl⟩
  obtain ⟨y, hy⟩ : ∃ y, y = cmpS b c := ⟨_, rfl⟩
  obtain ⟨z, hz⟩ : ∃ z, z = cmpS a c := ⟨_, rfl⟩
  obtain ⟨u, hu⟩ : ∃ u, u = cmpS b a := ⟨_, rfl⟩
  unfold Hid at C1 C2 C3 C4
  rw [← hx] at C1 hA hZ hTr hbd
  rw [← hy] at C2 hTr
  rw [← hz] at C3 hTr
  rw [← hu] at C4 hA
  have K1 := Lib.hid C1
  have K2 := Lib.hid C2
  have K3 := Lib.hid C3
  have K4 := Lib.hid C4
  have hx1 := hbd.1
  have hx2 := hbd.2
  have HA := Lib.hid hA
  have HZ := Lib.hid hZ
  have HTr := Lib.hid hTr
  clear C1 C2 C3 C4 hx hy hz hu ha hb hc hj1 hj2 hj3 hA hZ hTr hbd
  refine (K1.out _ (HE.out.below HB4.out)).mono ?_; rintro e v1 ⟨rfl, cD1⟩
  have D1 := Lib.hid (keep HB4.out cD1)
  clear cD1
  go_wp2_with fail
  refine (K2.out _ (HE.out.below D1.out)).mono ?_; rintro e v2 ⟨rfl, cD2⟩
  have D2 := Lib.hid (keep D1.out cD2)
  clear cD2
  go_wp2_with fail
  refine (K3.out _ (HE.out.below D2.out)).mono ?_; rintro e v3 ⟨rfl, cD3⟩
  have D3 := Lib.hid (keep D2.out cD3)
  clear cD3
  have t1 : (u == -x) = true := beq_iff_eq.2 HA.out
  have t23 : ((x == 0) = true ∧ (a.toList == b.toList) = true) ∨ ((x == 0) = false ∧ (a.toList == b.toList) = false) := by
    by_cases h : x = 0
    · exact .inl ⟨beq_iff_eq.2 h, eq_text (HZ.out.1 h)⟩
    · exact .inr ⟨beq_eq_false_iff_ne.2 h, ne_text (fun e => h (HZ.out.2 e))⟩
  have t4 : 0 < x ∨ (¬ 0 < x ∧ 0 < y) ∨ (¬ 0 < x ∧ ¬ 0 < y ∧ z ≤ 0) := by
    by_cases h1 : 0 < x
    · exact .inl h1
    · by_cases h2 : 0 < y
      · exact .inr (.inl ⟨h1, h2⟩)
      · exact .inr (.inr ⟨h1, h2, HTr.out (by omega) (by omega)⟩)
  clear HA HZ HTr
  rcases t23 with ⟨t2, t3⟩ | ⟨t2, t3⟩ <;> rcases t4 with t4 | ⟨t4, t5⟩ | ⟨t4, t5, t6⟩
  all_goals
    go_wp2_with fail
    refine (K4.out _ (HE.out.below D3.out)).mono ?_; rintro e v4 ⟨rfl, c4⟩
    have D4 := Lib.hid (keep D3.out c4)
    clear c4
    go_wp2_with fail
    refine (awake_v _ (HE.out.below D4.out)).mono ?_; rintro e w9 ⟨rfl, b9⟩
    have BE := Lib.hid (keep D4.out b9)
    clear b9
    go_wp2_with fail
    go_ret
    exact ⟨rfl, BE.out⟩
end Go.Proofs.YtejcdgkcmbmbmaaDoor.C6
