/- NaturalPrints: the walk. -/
import Derived.Test.YtaggodjplgmmhaaDoorTxt6
namespace Go.Proofs.YtaggodjplgmmhaaDoor
open Go.RowKit

theorem str_eq {l : List UInt8} {X : ByteArray} (h : X = ⟨l.toArray⟩) : X.data.toList = l := by rw [h]
theorem rl_sm {N : Nat} (h : Sm N 30) : (rl N).length ≤ 1001 := by
  obtain ⟨E, hE⟩ : ∃ E : Nat, E = 319 := ⟨_, rfl⟩
  have h1 : N < 10 ^ (E + 1) := by
    have h2 := h.1
    obtain ⟨F, hF⟩ : ∃ F : Nat, F = 32 * 30 := ⟨_, rfl⟩
    rw [pw_two, ← hF] at h2
    have h3 : 2 ^ (3 * (E + 1)) ≤ 10 ^ (E + 1) := by
      rw [Nat.pow_mul]; exact Nat.pow_le_pow_left (by omega) _
    have h4 : 2 ^ F ≤ 2 ^ (3 * (E + 1)) := Nat.pow_le_pow_right (by omega) (by omega)
    omega
  have := rl_length E N h1
  omega
theorem rFormat_str {ao : Option Addr} {n ca N : Nat} {w : World} (s : ByteArray) (ha : Num w ao n ca N) (hrl : (rl N).length ≤ 1001) (hs : s = ⟨(Lib.decDigits N).toArray⟩) : Calls Tryd.prog 36 #[.slice ao n ca] w fun e w' => e = .returned (.string s) ∧ Below w.heap.size w w' := by
  subst hs; exact rFormat_num ha hrl
theorem Format_num {ao : Option Addr} {n ca N : Nat} {w : World} (s : ByteArray) (ha : Num w ao n ca N) (hs : s = ⟨(Lib.decDigits N).toArray⟩) (htab : Tab w) : Calls Tryd.prog 34 #[.slice ao n ca] w fun e w' => e = .returned (.string s) ∧ Below w.heap.size w w' := by
  subst hs
  obtain ⟨xs, rfl, h1, rfl, h2⟩ := ha
  exact Format_any ao ca xs w h1 (by omega) htab

set_option maxHeartbeats 8000000 in
set_option maxRecDepth 100000 in
theorem NaturalPrints_any (ao : Option Addr) (ca : Nat) (xs : List Nat) (w : World) (ha : Rd w ao ca xs) (htab : Tab w) :
    Calls Tryd.prog 11 #[.slice ao xs.length ca] w fun e w' => e = .returned (.bool true) ∧ Below w.heap.size w w' := by
  obtain ⟨N, n_a, s_a⟩ := cut_min (k := 30) ha (by omega) 30 rfl
  have hm_a := ha.max
  have hl_a := ha.le
  clear ha
  obtain ⟨X, hX⟩ : ∃ X : ByteArray, X = ⟨(Lib.decDigits N).toArray⟩ := ⟨_, rfl⟩
  have hXl := str_eq hX
  have hrl := rl_sm s_a
  have hlen : (Lib.decDigits N).length ≤ 1001 := by
    rcases Nat.eq_zero_or_pos N with z | z
    · rw [z, dec_small (by omega)]; simp
    · have e : rl N = (Lib.decDigits N).reverse := if_neg (by omega)
      rw [e, List.length_reverse] at hrl; exact hrl
  have hXs : X.size ≤ 9223372036854775807 := by rw [← size_list, hXl]; omega
  obtain ⟨e1, e2⟩ := txt_fine (l := X.data.toList) (by rw [hXl]; exact good_dec N) (by rw [hXl]; omega)
  rw [hXl, dv_dec] at e2
  have HX := Lib.hid hX
  have E1 := Lib.hid e1
  have E2 : Hid (txtRes X.data.toList = N) := by show _ = _; rw [hXl]; exact e2
  clear hX hXl e1 e2 hlen
  go_enter Tryd.func11, Tryd.ntmps11
  go_wp2_with fail
  refine (Format_num X n_a HX.out htab).mono ?_; rintro e w1 ⟨rfl, b1⟩
  have B := b1
  replace n_a := n_a.below b1
  go_wp2_with fail
  refine (Parse_any X _ hXs).mono ?_; rintro e w2 ⟨a2, c2, rfl, f2, b2⟩
  rw [E2.out] at f2
  rw [E1.out, E2.out]
  replace n_a := n_a.below b2
  replace B := B.trans (b2.mono B.size)
  go_wp2_with fail
  refine (rFormat_str X n_a hrl HX.out).mono ?_; rintro e w3 ⟨rfl, b3⟩
  replace n_a := n_a.below b3
  replace f2 := f2.below b3
  replace B := B.trans (b3.mono B.size)
  go_wp2_with fail
  refine (rTrim_num n_a).mono ?_; rintro e w4 ⟨a4, c4, rfl, f4, b4⟩
  replace f2 := f2.below b4
  replace B := B.trans (b4.mono B.size)
  go_wp2_with fail
  refine (Same_num f2 f4 rfl).mono ?_; rintro e w5 ⟨rfl, b5⟩
  replace B := B.trans (b5.mono B.size)
  go_wp2_with fail
  refine (awake_any _ (htab.below B)).mono ?_; rintro e w6 ⟨rfl, b6⟩
  have BE := B.trans (b6.mono B.size)
  go_wp2_with fail
  go_ret
  exact ⟨rfl, BE⟩
end Go.Proofs.YtaggodjplgmmhaaDoor
