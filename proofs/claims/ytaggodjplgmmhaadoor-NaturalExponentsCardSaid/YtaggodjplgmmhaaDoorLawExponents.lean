/- NaturalExponents: the walk. -/
import Derived.Test.YtaggodjplgmmhaaDoorPow3
namespace Go.Proofs.YtaggodjplgmmhaaDoor
open Go.RowKit

theorem why_zero {N j : Nat} (h : Sm N 2) (hj : j ≤ 60) : powWhy N (j : Int) = 0 := by
  have hb : bl N ≤ 64 := bits_of h
  unfold powWhy
  rw [if_neg (by omega), Int.toNat_natCast]
  by_cases h1 : (j : Int) = 0 ∨ bl N ≤ 1
  · rw [if_pos h1]
  · rw [if_neg h1]
    have hj0 : 0 < j := by omega
    refine if_neg ?_
    intro h2
    have a1 : 131071 / 60 ≤ 131071 / j := Nat.div_le_div_left hj hj0
    have a2 : N ^ j ≤ (2 ^ bl N) ^ j := Nat.pow_le_pow_left (Nat.le_of_lt (bl_self N)) j
    rw [← Nat.pow_mul] at a2
    have a3 : bl N * j ≤ 64 * 60 := Nat.mul_le_mul hb hj
    obtain ⟨E, hE⟩ : ∃ E : Nat, E = 131072 := ⟨_, rfl⟩
    have a4 : N ^ j < 2 ^ E := Nat.lt_of_le_of_lt a2 (Nat.pow_lt_pow_right (by omega) (by omega))
    have a5 := bl_le.2 a4
    omega
theorem res_pow {N j : Nat} (h : Sm N 2) (hj : j ≤ 60) : powRes N (j : Int) = N ^ j := by
  unfold powRes; rw [if_pos (why_zero h hj), Int.toNat_natCast]
/-- Power without an error -/
theorem Power_fine {ao : Option Addr} {n ca N j : Nat} {w : World} (i : Int) (hi : i = (j : Int)) (ha : Num w ao n ca N) (hs : Sm N 2) (hj : j ≤ 60) : Calls Tryd.prog 28 #[.slice ao n ca, .int .i64 i] w (PowPost 0 (N ^ j) w) := by
  subst hi
  have := Power_num (j : Int) ha (by omega) (by omega)
  rwa [why_zero hs hj, res_pow hs hj] at this
theorem pow_sm60 {N j : Nat} (h : Sm N 2) (hj : j ≤ 60) : Sm (N ^ j) 200 := by
  have hb : bl N ≤ 64 := bits_of h
  have a2 : N ^ j ≤ (2 ^ bl N) ^ j := Nat.pow_le_pow_left (Nat.le_of_lt (bl_self N)) j
  rw [← Nat.pow_mul] at a2
  have a3 : bl N * j ≤ 64 * 60 := Nat.mul_le_mul hb hj
  refine ⟨?_, by omega⟩
  rw [pw_two]
  obtain ⟨E, hE⟩ : ∃ E : Nat, E = 32 * 200 := ⟨_, rfl⟩
  rw [← hE]
  exact Nat.lt_of_le_of_lt a2 (Nat.pow_lt_pow_right (by omega) (by omega))

set_option maxHeartbeats 20000000 in
set_option maxRecDepth 100000 in
theorem NaturalExponents_any (ao : Option Addr) (ca : Nat) (xs : List Nat) (y z : Int) (w : World) (ha : Rd w ao ca xs) (_hy0 : -9223372036854775808 ≤ y) (_hy1 : y ≤ 9223372036854775807) (_hz0 : -9223372036854775808 ≤ z) (_hz1 : z ≤ 9223372036854775807) (htab : Tab w) :
    Calls Tryd.prog 7 #[.slice ao xs.length ca, .int .i64 y, .int .i64 z] w fun e w' => e = .returned (.bool true) ∧ Below w.heap.size w w' := by
  obtain ⟨N, n_a, s_a⟩ := cut_min (k := 2) ha (by omega) 2 rfl
  have hm_a := ha.max
  have hl_a := ha.le
  clear ha
  go_enter Tryd.func7, Tryd.ntmps7
  go_wp2_with fail
  refine (Fold_any y 25 (by omega) (by omega) _ 25 rfl).mono ?_; rintro e w' ⟨j, rfl, hj, rfl⟩
  go_wp2_with fail
  refine (Fold_any z 25 (by omega) (by omega) _ 25 rfl).mono ?_; rintro e w' ⟨k, rfl, hk, rfl⟩
  have hmul := Lib.hid ((Nat.pow_add N j k).symm)
  go_wp2_with fail
  refine (Power_fine _ rfl n_a s_a (show j ≤ 60 by omega)).mono ?_; rintro e w1 ⟨a1, c1, rfl, f1, b1⟩
  have B := b1
  replace n_a := n_a.below b1
  go_wp2_with fail
  refine (Power_fine _ rfl n_a s_a (show k ≤ 60 by omega)).mono ?_; rintro e w2 ⟨a2, c2, rfl, f2, b2⟩
  replace n_a := n_a.below b2
  replace f1 := f1.below b2
  replace B := B.trans (b2.mono B.size)
  go_wp2_with fail
  refine (Power_fine (j := j + k) _ (by omega) n_a s_a (by omega)).mono ?_; rintro e w3 ⟨a3, c3, rfl, f3, b3⟩
  replace f1 := f1.below b3
  replace f2 := f2.below b3
  replace B := B.trans (b3.mono B.size)
  have n1 := Num.of_fr f1 (pow_sm60 s_a (by omega))
  have n2 := Num.of_fr f2 (pow_sm60 s_a (by omega))
  go_wp2_with fail
  refine (rMul_num n1 n2).mono ?_; rintro e w4 ⟨a4, c4, rfl, f4, b4⟩
  rw [hmul.out] at f4 ⊢
  replace f3 := f3.below b4
  replace B := B.trans (b4.mono B.size)
  go_wp2_with fail
  refine (Same_num f4 f3 rfl).mono ?_; rintro e w5 ⟨rfl, b5⟩
  replace B := B.trans (b5.mono B.size)
  go_wp2_with fail
  refine (awake_any _ (htab.below B)).mono ?_; rintro e w6 ⟨rfl, b6⟩
  have BE := B.trans (b6.mono B.size)
  go_wp2_with fail
  go_ret
  exact ⟨rfl, BE⟩
end Go.Proofs.YtaggodjplgmmhaaDoor
