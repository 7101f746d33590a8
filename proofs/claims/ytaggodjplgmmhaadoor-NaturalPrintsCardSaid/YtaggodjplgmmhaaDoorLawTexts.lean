/- NaturalTexts: the walk. -/
import Derived.Test.YtaggodjplgmmhaaDoorTxt5
namespace Go.Proofs.YtaggodjplgmmhaaDoor
open Go.RowKit

theorem txt_cases (l : List UInt8) : (txtWhy l = 13 ∧ txtRes l = 0) ∨ (txtWhy l = 14 ∧ txtRes l = 0) ∨ (txtWhy l = 0 ∧ txtRes l = dv 0 l ∧ Good l ∧ l.length ≤ 4096) := by
  by_cases h : Good l
  · rcases Nat.lt_or_ge 4096 l.length with k | k
    · exact .inr (.inl (txt_long h k))
    · exact .inr (.inr ⟨(txt_fine h k).1, (txt_fine h k).2, h, k⟩)
  · exact .inl (txt_bad h)
theorem Format_str {B : Nat} {ao : Option Addr} {ca N : Nat} {w : World} (s : ByteArray) (f : Fr B w ao ca (dig N)) (hl : (dig N).length ≤ 1099511627776) (hs : Lib.decDigits N = s.data.toList) (htab : Tab w) :
    Calls Tryd.prog 34 #[.slice ao (dig N).length ca] w fun e w' => e = .returned (.string s) ∧ Below w.heap.size w w' := by
  have := Format_any ao ca (dig N) w f.rd hl htab
  rw [val_dig, hs] at this
  exact this

set_option maxHeartbeats 8000000 in
set_option maxRecDepth 100000 in
theorem NaturalTexts_any (s : ByteArray) (w : World) (hs : s.size ≤ 9223372036854775807) (htab : Tab w) :
    Calls Tryd.prog 9 #[.string s] w fun e w' => e = .returned (.bool true) ∧ Below w.heap.size w w' := by
  have tail : ∀ (l : List UInt8), ∃ y R, txtWhy l = y ∧ txtRes l = R ∧ (y = 13 ∨ y = 14 ∨ (y = 0 ∧ Lib.decDigits R = l ∧ Sm R 512)) := by
    intro l
    refine ⟨_, _, rfl, rfl, ?_⟩
    rcases txt_cases l with ⟨a, b⟩ | ⟨a, b⟩ | ⟨a, b, c, d⟩
    · exact .inl a
    · exact .inr (.inl a)
    · exact .inr (.inr ⟨a, by rw [b]; exact dec_dv c, by rw [b]; exact sm_dv c.1 d⟩)
  have TAIL := Lib.hid tail
  clear tail
  by_cases h60 : s.size ≤ 60
  · go_enter Tryd.func9, Tryd.ntmps9
    go_wp2_with fail
    generalize hX : s.extract 0 (min ((s.size : Nat) : Int) 5000).toNat = X
    have hXs : X.size ≤ 9223372036854775807 := by rw [← hX]; simp; omega
    obtain ⟨y, R, hy, hR, hcase⟩ := TAIL.out X.data.toList
    have HY := Lib.hid hy
    have HR := Lib.hid hR
    have XX := Lib.hid hX
    clear hX hy hR
    refine (Parse_any X _ hXs).mono ?_; rintro e w1 ⟨a1, c1, rfl, f1, b1⟩
    rw [HY.out, HR.out]
    rw [HR.out] at f1
    go_wp2_with fail
    refine (rParse_any X _ hXs).mono ?_; rintro e w2 ⟨a2, c2, rfl, f2, b2⟩
    rw [HY.out, HR.out]
    rw [HR.out] at f2
    replace f1 := f1.below b2
    have B := b1
    replace B := B.trans (b2.mono B.size)
    rcases hcase with rfl | rfl | ⟨rfl, hdec, hsm⟩
    · go_wp2_with fail
      refine (Same_num f1 f2 rfl).mono ?_; rintro e w3 ⟨rfl, b3⟩
      replace B := B.trans (b3.mono B.size)
      go_wp2_with fail
      refine (awake_any _ (htab.below B)).mono ?_; rintro e w6 ⟨rfl, b6⟩
      have BE := B.trans (b6.mono B.size)
      go_wp2_with fail
      go_ret
      exact ⟨rfl, BE⟩
    · go_wp2_with fail
      refine (Same_num f1 f2 rfl).mono ?_; rintro e w3 ⟨rfl, b3⟩
      replace B := B.trans (b3.mono B.size)
      go_wp2_with fail
      refine (awake_any _ (htab.below B)).mono ?_; rintro e w6 ⟨rfl, b6⟩
      have BE := B.trans (b6.mono B.size)
      go_wp2_with fail
      go_ret
      exact ⟨rfl, BE⟩
    · have HDEC := Lib.hid hdec
      clear hdec
      have hlen : (dig R).length ≤ 1099511627776 := Nat.le_trans hsm.len (by omega)
      go_wp2_with fail
      refine (Same_num f1 f2 rfl).mono ?_; rintro e w3 ⟨rfl, b3⟩
      replace f1 := f1.below b3
      replace B := B.trans (b3.mono B.size)
      go_wp2_with fail
      refine (Format_str X f1 hlen HDEC.out (htab.below B)).mono ?_; rintro e w4 ⟨rfl, b4⟩
      replace B := B.trans (b4.mono B.size)
      go_wp2_with fail
      refine (awake_any _ (htab.below B)).mono ?_; rintro e w6 ⟨rfl, b6⟩
      have BE := B.trans (b6.mono B.size)
      go_wp2_with fail
      go_ret
      exact ⟨rfl, BE⟩
  · go_enter Tryd.func9, Tryd.ntmps9
    go_wp2_with fail
    go_quiet (fail)
    go_wp2_with fail
    have b0 := below_drewN (Below.refl w.heap.size w) nq
    generalize hX : (s.extract 0 (min ((s.size : Nat) : Int) 5000).toNat).extract 0 60 ++ (s.extract 0 (min ((s.size : Nat) : Int) 5000).toNat).extract (max 60 (((min (min ((s.size : Nat) : Int) 5000).toNat s.size : Nat) : Int) - 20)).toNat (min (min ((s.size : Nat) : Int) 5000).toNat s.size) = X
    have hXs : X.size ≤ 9223372036854775807 := by rw [← hX]; simp; omega
    obtain ⟨y, R, hy, hR, hcase⟩ := TAIL.out X.data.toList
    have HY := Lib.hid hy
    have HR := Lib.hid hR
    have XX := Lib.hid hX
    clear hX hy hR
    refine (Parse_any X _ hXs).mono ?_; rintro e w1 ⟨a1, c1, rfl, f1, b1⟩
    rw [HY.out, HR.out]
    rw [HR.out] at f1
    go_wp2_with fail
    refine (rParse_any X _ hXs).mono ?_; rintro e w2 ⟨a2, c2, rfl, f2, b2⟩
    rw [HY.out, HR.out]
    rw [HR.out] at f2
    replace f1 := f1.below b2
    have B := b0.trans (b1.mono b0.size)
    replace B := B.trans (b2.mono B.size)
    rcases hcase with rfl | rfl | ⟨rfl, hdec, hsm⟩
    · go_wp2_with fail
      refine (Same_num f1 f2 rfl).mono ?_; rintro e w3 ⟨rfl, b3⟩
      replace B := B.trans (b3.mono B.size)
      go_wp2_with fail
      refine (awake_any _ (htab.below B)).mono ?_; rintro e w6 ⟨rfl, b6⟩
      have BE := B.trans (b6.mono B.size)
      go_wp2_with fail
      go_ret
      exact ⟨rfl, BE⟩
    · go_wp2_with fail
      refine (Same_num f1 f2 rfl).mono ?_; rintro e w3 ⟨rfl, b3⟩
      replace B := B.trans (b3.mono B.size)
      go_wp2_with fail
      refine (awake_any _ (htab.below B)).mono ?_; rintro e w6 ⟨rfl, b6⟩
      have BE := B.trans (b6.mono B.size)
      go_wp2_with fail
      go_ret
      exact ⟨rfl, BE⟩
    · have HDEC := Lib.hid hdec
      clear hdec
      have hlen : (dig R).length ≤ 1099511627776 := Nat.le_trans hsm.len (by omega)
      go_wp2_with fail
      refine (Same_num f1 f2 rfl).mono ?_; rintro e w3 ⟨rfl, b3⟩
      replace f1 := f1.below b3
      replace B := B.trans (b3.mono B.size)
      go_wp2_with fail
      refine (Format_str X f1 hlen HDEC.out (htab.below B)).mono ?_; rintro e w4 ⟨rfl, b4⟩
      replace B := B.trans (b4.mono B.size)
      go_wp2_with fail
      refine (awake_any _ (htab.below B)).mono ?_; rintro e w6 ⟨rfl, b6⟩
      have BE := B.trans (b6.mono B.size)
      go_wp2_with fail
      go_ret
      exact ⟨rfl, BE⟩
end Go.Proofs.YtaggodjplgmmhaaDoor
