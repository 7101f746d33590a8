/- Contract of the reference's Power. -/
import Derived.Test.YtaggodjplgmmhaaDoorPow2
import Derived.IntWalk
namespace Go.Proofs.YtaggodjplgmmhaaDoor
open Go.RowKit

theorem Num.drewN {w : World} {ao : Option Addr} {n cap N : Nat} (h : Num w ao n cap N) (k : Nat) : Num (w.drewN k) ao n cap N := h.below (below_drewN (Below.refl _ _) k)
theorem raise_numD {ao : Option Addr} {n ca N k K R : Nat} {w : World} (i : Int) (hi : i = (k : Int)) (ha : Num w ao n ca N) (hk : k < 9223372036854775808) (hs : Sm (N ^ k + N + 1) K) (hR : N ^ k = R) : Calls Tryd.prog 31 #[.slice ao n ca, .int .i64 i] w (Makes R w) := by
  subst hR; subst hi; exact Raise_num ha hk hs
theorem sm_more {N K : Nat} (h : Sm N K) : N + N + 2 ≤ pw (K + 1) := by
  have := h.1; have h2 := pw_pos K; rw [pw_succ]; omega

set_option maxHeartbeats 2000000 in
set_option maxRecDepth 100000 in
theorem rPower_num {ao : Option Addr} {n ca N K : Nat} {w : World} (k : Int) (ha : Num w ao n ca N) (h0 : -9223372036854775808 ≤ k) (h1 : k ≤ 9223372036854775807) (hs : Sm N K) (hK : K ≤ 1000) : Calls Tryd.prog 29 #[.slice ao n ca, .int .i64 k] w (PowPost (powWhy N k) (powRes N k) w) := by
  obtain ⟨b, hb⟩ : ∃ b, bl N = b := ⟨_, rfl⟩
  have HB := Lib.hid hb
  have hbb : b ≤ 32 * K := by rw [← hb]; exact bits_of hs
  have s_2 : Sm (N + N + 1) (K + 1) := ⟨by have := sm_more hs; omega, by omega⟩
  rcases pow_cases N k with ⟨c1, e1, e2⟩ | ⟨rfl, e1, e2⟩ | ⟨j, rfl, c1, c2, e1, e2, e3⟩ | ⟨j, rfl, c1, c2, c3, e1, e2⟩ | ⟨j, rfl, c1, c2, c3, c4, e1, e2⟩ | ⟨j, rfl, c1, c2, c3, c4, e1, e2⟩
  all_goals
    rw [e1, e2]
    clear e1 e2
  · clear hb
    go_enter Tryd.func29, Tryd.ntmps29
    go_wp2_with fail
    go_ret2
    exact PowPost.err
  · clear hb
    have s_0 : Sm (N ^ 0 + N + 1) (K + 1) := ⟨by have := sm_more hs; rw [Nat.pow_zero]; have h2 := hs.1; have := pw_pos K; rw [pw_succ]; omega, by omega⟩
    go_enter Tryd.func29, Tryd.ntmps29
    go_wp2_with fail
    refine (raise_numD (k := 0) (R := 1) 0 rfl ha (by omega) s_0 (Nat.pow_zero N)).mono ?_; rintro e w1 ⟨a1, c1, rfl, f1, b1⟩
    go_wp2_with fail
    go_ret2
    exact PowPost.made f1 b1
  · rw [hb] at c2
    have hz : ((j : Int) == 0) = false := beq_eq_false_iff_ne.2 (by omega)
    have hmin : min (j : Int) 1 = 1 := by omega
    have E3 := Lib.hid e3
    have s_1 : Sm (N ^ 1 + N + 1) (K + 1) := by rw [Nat.pow_one]; exact s_2
    clear hb e3
    go_enter Tryd.func29, Tryd.ntmps29
    go_wp2_with fail
    refine (rBits_num ha).mono ?_; rintro e w' ⟨rfl, rfl⟩
    rw [HB.out]
    go_wp2_with fail
    refine (raise_numD (k := 1) (R := N) 1 rfl ha (by omega) s_1 (Nat.pow_one N)).mono ?_; rintro e w1 ⟨a1, c1, rfl, f1, b1⟩
    go_wp2_with fail
    go_ret2
    rw [E3.out]
    exact PowPost.made f1 b1
  · rw [hb] at c2 c3
    have hz : ((j : Int) == 0) = false := beq_eq_false_iff_ne.2 (by omega)
    obtain ⟨Q, hQ⟩ : ∃ Q, Q = 131071 / j := ⟨_, rfl⟩
    have hq : (131071 : Int) / (j : Int) = (Q : Int) := by rw [hQ]; exact (Int.natCast_ediv 131071 j).symm
    have hqb : Q ≤ 131071 := by rw [hQ]; exact Nat.div_le_self _ _
    have hqt : Int.tdiv 131071 (j : Int) = (Q : Int) := by rw [Int.tdiv_eq_ediv_of_nonneg (by omega)]; exact hq
    have hqw : IntKind.i64.wrap (Q : Int) = (Q : Int) := IntWalk.i64_in _ (by omega)
    have hbw : IntKind.i64.wrap ((b : Int) - 1) = (b : Int) - 1 := IntWalk.i64_in _ (by omega)
    rw [← hQ] at c3
    have hlt : (Q : Int) < (b : Int) - 1 := by omega
    clear hb hQ
    go_enter Tryd.func29, Tryd.ntmps29
    go_wp2_with fail
    refine (rBits_num ha).mono ?_; rintro e w' ⟨rfl, rfl⟩
    rw [HB.out]
    go_wp2_with fail
    go_quiet ((go_at_call 14; exact Calls.quiet_of_same ((rBits_num (by first | exact ha.drewN _ | exact ha)).mono fun e w' h => ⟨by rw [h.1, HB.out], h.2.symm⟩)))
    go_wp2_with fail
    go_ret2
    exact ⟨none, 0, rfl, Fr.nil _ _, below_drewN (Below.refl _ _) _⟩
  all_goals
    obtain ⟨hs3, hj⟩ := pow_sm c2 c1 c3
    rw [hb] at c2 c3
    have hz : ((j : Int) == 0) = false := beq_eq_false_iff_ne.2 (by omega)
    obtain ⟨Q, hQ⟩ : ∃ Q, Q = 131071 / j := ⟨_, rfl⟩
    have hq : (131071 : Int) / (j : Int) = (Q : Int) := by rw [hQ]; exact (Int.natCast_ediv 131071 j).symm
    have hqb : Q ≤ 131071 := by rw [hQ]; exact Nat.div_le_self _ _
    have hqt : Int.tdiv 131071 (j : Int) = (Q : Int) := by rw [Int.tdiv_eq_ediv_of_nonneg (by omega)]; exact hq
    have hqw : IntKind.i64.wrap (Q : Int) = (Q : Int) := IntWalk.i64_in _ (by omega)
    have hbw : IntKind.i64.wrap ((b : Int) - 1) = (b : Int) - 1 := IntWalk.i64_in _ (by omega)
    rw [← hQ] at c3
    have hlt : ¬ (Q : Int) < (b : Int) - 1 := by omega
    obtain ⟨r, hr⟩ : ∃ r, bl (N ^ j) = r := ⟨_, rfl⟩
    have s_p : Sm (N ^ j) 8194 := Sm.of_le hs3 (by omega)
    have hrb : r ≤ 262208 := by rw [← hr]; exact bits_of s_p
    have HR := Lib.hid hr
    rw [hr] at c4
    clear hb hQ hr
    go_enter Tryd.func29, Tryd.ntmps29
    go_wp2_with fail
    refine (rBits_num ha).mono ?_; rintro e w' ⟨rfl, rfl⟩
    rw [HB.out]
    go_wp2_with fail
    go_quiet ((go_at_call 14; exact Calls.quiet_of_same ((rBits_num (by first | exact ha.drewN _ | exact ha)).mono fun e w' h => ⟨by rw [h.1, HB.out], h.2.symm⟩)))
    have B0 := below_drewN (Below.refl w.heap.size w) nq
    have ha2 := ha.below B0
    clear hbw hqw hqt hq hlt
    go_wp2_with fail
    refine (Raise_num ha2 (by omega) hs3).mono ?_; rintro e w1 ⟨a1, c1, rfl, f1, b1⟩
    have n1 := Num.of_fr f1 s_p
    go_wp2_with fail
    refine (rBits_num n1).mono ?_; rintro e w' ⟨rfl, rfl⟩
    rw [HR.out]
    go_wp2_with fail
    go_ret2
    first | exact ⟨none, 0, rfl, Fr.nil _ _, B0.trans b1⟩ | exact PowPost.made f1 (B0.trans b1)
end Go.Proofs.YtaggodjplgmmhaaDoor
