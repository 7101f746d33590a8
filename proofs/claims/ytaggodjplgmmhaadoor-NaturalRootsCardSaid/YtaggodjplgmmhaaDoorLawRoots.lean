/- NaturalRoots: the walk. -/
import Derived.Test.YtaggodjplgmmhaaDoorRoot2
import Derived.Test.YtaggodjplgmmhaaDoorLawDivides
namespace Go.Proofs.YtaggodjplgmmhaaDoor
open Go.RowKit

theorem sm_one : Sm 1 1 := ⟨by rw [pw_succ, pw_zero]; omega, by omega⟩
theorem root_up {N K R : Nat} (hr : IsRoot N K R) (hk0 : 0 < K) (hk : K ≤ 1024) (s : Sm N 12) : Sm ((R + 1) ^ K + (R + 1) + 1) 70 := by
  have s2 : Sm (2 ^ K) 33 := by
    refine ⟨?_, by omega⟩
    rw [pw_two]
    obtain ⟨E, hE⟩ : ∃ E : Nat, E = 32 * 33 := ⟨_, rfl⟩
    rw [← hE]
    exact Nat.pow_lt_pow_right (by omega) (by omega)
  have h1 : (R + 1) ^ K ≤ 2 ^ K * N + 1 := by
    rcases Nat.eq_zero_or_pos R with e | e
    · subst e; rw [Nat.zero_add, Nat.one_pow]; omega
    · have a1 : (R + 1) ^ K ≤ (2 * R) ^ K := Nat.pow_le_pow_left (by omega) K
      rw [Nat.mul_pow] at a1
      have a2 : 2 ^ K * R ^ K ≤ 2 ^ K * N := Nat.mul_le_mul_left _ hr.1
      omega
  have h2 := hr.le hk0
  have s3 := ((s2.mul s (by omega)).add sm_one (by omega)).add ((s.add sm_one (by omega)).add sm_one (by omega)) (by omega)
  exact sm_up (Sm.of_le s3 (by omega)) (by omega)

theorem two_sm {N K R : Nat} (hr : IsRoot N K R) (hRN : R ≤ N) (s : Sm N 12) : Sm (R ^ K + R + 1) 30 := by
  have s0 := (s.add s (by omega)).add sm_one (by omega)
  have h1 := hr.1
  exact sm_up (Sm.of_le (M := R ^ K + R + 1) s0 (by omega)) (by omega)

set_option maxHeartbeats 20000000 in
set_option maxRecDepth 100000 in
theorem NaturalRoots_any (ao : Option Addr) (ca : Nat) (xs : List Nat) (z : Int) (w : World) (ha : Rd w ao ca xs) (hz0 : -9223372036854775808 ≤ z) (hz1 : z ≤ 9223372036854775807) (htab : Tab w) :
    Calls Tryd.prog 8 #[.slice ao xs.length ca, .int .i64 z] w fun e w' => e = .returned (.bool true) ∧ Below w.heap.size w w' := by
  obtain ⟨u_a, e_a⟩ : ∃ u, u = xs.take 12 := ⟨_, rfl⟩
  obtain ⟨n_a, s_a⟩ := Cut_num ha e_a
  have hl_u : Lims u_a := by rw [e_a]; exact lims_take ha.lims 12
  have E_a := Lib.hid e_a
  clear e_a
  obtain ⟨N, hN⟩ : ∃ N, val u_a = N := ⟨_, rfl⟩
  have hlen : ∀ R, R ≤ N → (dig R).length ≤ u_a.length := fun R h => by
    rw [← hN] at h
    exact Nat.le_trans (dig_mono h) (dig_length_val hl_u)
  have hul : u_a.length ≤ 12 := by rw [E_a.out, List.length_take]; omega
  rw [hN] at n_a s_a
  clear hN hl_u
  by_cases hz : 1 ≤ z ∧ z ≤ 1024
  · obtain ⟨K, rfl⟩ := Int.eq_ofNat_of_zero_le (show 0 ≤ z by omega)
    have hk0 : 0 < K := by omega
    have hk : K ≤ 1024 := by omega
    clear hz hz0 hz1
    go_enter Tryd.func8, Tryd.ntmps8
    go_wp2_with fail
    refine (Cut_any _ _ _ u_a _ ha E_a.out).mono ?_; rintro e w' ⟨rfl, rfl⟩
    clear ha E_a
    go_wp2_with fail
    refine (Root_v (k := K) _ rfl n_a (sm_up s_a (by omega)) hk0 hk).mono ?_; rintro e w1 ⟨R, x, a_r, c_r, rfl, f_r, b1, hr, hx⟩
    have hRN := hr.le hk0
    have s_R := Sm.of_le s_a hRN
    have hlr := hlen R hRN
    have s_p := two_sm hr hRN s_a
    have s_2 := root_up hr hk0 hk s_a
    obtain ⟨c1, hc1, hcx⟩ : ∃ c1, cmpn (R ^ K) N = c1 ∧ ((c1 = 0 ∧ x = true) ∨ (c1 = -1 ∧ x = false)) := by
      rcases hx with ⟨h1, h2⟩ | ⟨h1, h2⟩
      · exact ⟨0, cmpn_eq h1, .inl ⟨rfl, h2⟩⟩
      · exact ⟨-1, cmpn_lt h1, .inr ⟨rfl, h2⟩⟩
    have hc2 : cmpn ((R + 1) ^ K) N = 1 := cmpn_gt hr.2
    obtain ⟨P, hP⟩ : ∃ P, R ^ K = P := ⟨_, rfl⟩
    obtain ⟨P2, hP2⟩ : ∃ P2, (R + 1) ^ K = P2 := ⟨_, rfl⟩
    have HP := Lib.hid hP
    have HP2 := Lib.hid hP2
    rw [hP] at hc1
    rw [hP2] at hc2
    have s_P : Sm P 30 := Sm.of_le s_p (by rw [← hP]; omega)
    have s_P2 : Sm P2 70 := Sm.of_le s_2 (by rw [← hP2]; omega)
    have HC1 := Lib.hid hc1
    have HC2 := Lib.hid hc2
    have n_r := Num.of_fr f_r s_R
    replace n_a := n_a.below b1
    have B := b1
    clear hr hx hRN hP hP2 hc1 hc2 hlen
    rcases hcx with ⟨rfl, rfl⟩ | ⟨rfl, rfl⟩
    all_goals
      go_wp2_with fail
      refine (canonical_dig f_r).mono ?_; rintro e w' ⟨rfl, rfl⟩
      go_wp2_with fail
      refine (raise_numD (k := K) _ rfl n_r (by omega) s_p HP.out).mono ?_; rintro e w2 ⟨a_p, c_p, rfl, f_p, b2⟩
      replace n_a := n_a.below b2
      replace n_r := n_r.below b2
      replace B := B.trans (b2.mono B.size)
      have n_p := Num.of_fr f_p s_P
      go_wp2_with fail
      refine (rCompare_num n_p n_a).mono ?_; rintro e w3 ⟨rfl, b3⟩
      rw [HC1.out]
      replace n_a := n_a.below b3
      replace n_r := n_r.below b3
      replace n_p := n_p.below b3
      replace B := B.trans (b3.mono B.size)
      go_wp2_with fail
      refine (rCompare_num n_p n_a).mono ?_; rintro e w4 ⟨rfl, b4⟩
      rw [HC1.out]
      replace n_a := n_a.below b4
      replace n_r := n_r.below b4
      replace B := B.trans (b4.mono B.size)
      have n_1 := one_new w4
      have bn := below_new w4 (.cells #[.int .u32 1] 35)
      replace n_a := n_a.below bn
      replace n_r := n_r.below bn
      replace B := B.trans (bn.mono B.size)
      clear bn n_p
      go_wp2_with fail
      refine (rAdd_num n_r n_1).mono ?_; rintro e w5 ⟨a_s, c_s, rfl, f_s, b5⟩
      replace n_a := n_a.below b5
      replace B := B.trans (b5.mono B.size)
      have n_s := Num.of_fr f_s (s_R.add sm_one (by omega))
      clear n_r n_1
      go_wp2_with fail
      refine (raise_numD (k := K) _ rfl n_s (by omega) s_2 HP2.out).mono ?_; rintro e w6 ⟨a_q, c_q, rfl, f_q, b6⟩
      replace n_a := n_a.below b6
      replace B := B.trans (b6.mono B.size)
      have n_q := Num.of_fr f_q s_P2
      go_wp2_with fail
      refine (rCompare_num n_q n_a).mono ?_; rintro e w7 ⟨rfl, b7⟩
      rw [HC2.out]
      replace B := B.trans (b7.mono B.size)
      go_wp2_with fail
      refine (awake_any _ (htab.below B)).mono ?_; rintro e w8 ⟨rfl, b8⟩
      have BE := B.trans (b8.mono B.size)
      go_wp2_with fail
      go_ret
      exact ⟨rfl, BE⟩
  · have hzz : z < 1 ∨ 1024 < z := by omega
    rcases hzz with hz1' | hz1'
    · clear hz
      go_enter Tryd.func8, Tryd.ntmps8
      go_wp2_with fail
      refine (Cut_any _ _ _ u_a _ ha E_a.out).mono ?_; rintro e w' ⟨rfl, rfl⟩
      clear ha E_a
      go_wp2_with fail
      refine (Root_bad _ (by omega)).mono ?_; rintro e w' ⟨rfl, rfl⟩
      go_wp2_with fail
      refine (Fold_any z 40 (by omega) (by omega) _ 40 rfl).mono ?_; rintro e w' ⟨j, rfl, hj, rfl⟩
      obtain ⟨K, hK⟩ : ∃ K, K = 1 + j := ⟨_, rfl⟩
      have hk0 : 0 < K := by omega
      have hk : K ≤ 1024 := by omega
      go_wp2_with fail
      refine (Root_v (k := K) _ (by omega) n_a (sm_up s_a (by omega)) hk0 hk).mono ?_; rintro e w1 ⟨R, x, a_r, c_r, rfl, f_r, b1, hr, hx⟩
      have hRN := hr.le hk0
      have s_R := Sm.of_le s_a hRN
      have hlr := hlen R hRN
      have s_p := two_sm hr hRN s_a
      have s_2 := root_up hr hk0 hk s_a
      obtain ⟨c1, hc1, hcx⟩ : ∃ c1, cmpn (R ^ K) N = c1 ∧ ((c1 = 0 ∧ x = true) ∨ (c1 = -1 ∧ x = false)) := by
        rcases hx with ⟨h1, h2⟩ | ⟨h1, h2⟩
        · exact ⟨0, cmpn_eq h1, .inl ⟨rfl, h2⟩⟩
        · exact ⟨-1, cmpn_lt h1, .inr ⟨rfl, h2⟩⟩
      have hc2 : cmpn ((R + 1) ^ K) N = 1 := cmpn_gt hr.2
      obtain ⟨P, hP⟩ : ∃ P, R ^ K = P := ⟨_, rfl⟩
      obtain ⟨P2, hP2⟩ : ∃ P2, (R + 1) ^ K = P2 := ⟨_, rfl⟩
      have HP := Lib.hid hP
      have HP2 := Lib.hid hP2
      rw [hP] at hc1
      rw [hP2] at hc2
      have s_P : Sm P 30 := Sm.of_le s_p (by rw [← hP]; omega)
      have s_P2 : Sm P2 70 := Sm.of_le s_2 (by rw [← hP2]; omega)
      have HC1 := Lib.hid hc1
      have HC2 := Lib.hid hc2
      have n_r := Num.of_fr f_r s_R
      replace n_a := n_a.below b1
      have B := b1
      clear hr hx hRN hP hP2 hc1 hc2 hlen
      rcases hcx with ⟨rfl, rfl⟩ | ⟨rfl, rfl⟩
      all_goals
        go_wp2_with fail
        refine (canonical_dig f_r).mono ?_; rintro e w' ⟨rfl, rfl⟩
        go_wp2_with fail
        refine (raise_numD (k := K) _ (by omega) n_r (by omega) s_p HP.out).mono ?_; rintro e w2 ⟨a_p, c_p, rfl, f_p, b2⟩
        replace n_a := n_a.below b2
        replace n_r := n_r.below b2
        replace B := B.trans (b2.mono B.size)
        have n_p := Num.of_fr f_p s_P
        go_wp2_with fail
        refine (rCompare_num n_p n_a).mono ?_; rintro e w3 ⟨rfl, b3⟩
        rw [HC1.out]
        replace n_a := n_a.below b3
        replace n_r := n_r.below b3
        replace n_p := n_p.below b3
        replace B := B.trans (b3.mono B.size)
        go_wp2_with fail
        refine (rCompare_num n_p n_a).mono ?_; rintro e w4 ⟨rfl, b4⟩
        rw [HC1.out]
        replace n_a := n_a.below b4
        replace n_r := n_r.below b4
        replace B := B.trans (b4.mono B.size)
        have n_1 := one_new w4
        have bn := below_new w4 (.cells #[.int .u32 1] 35)
        replace n_a := n_a.below bn
        replace n_r := n_r.below bn
        replace B := B.trans (bn.mono B.size)
        clear bn n_p
        go_wp2_with fail
        refine (rAdd_num n_r n_1).mono ?_; rintro e w5 ⟨a_s, c_s, rfl, f_s, b5⟩
        replace n_a := n_a.below b5
        replace B := B.trans (b5.mono B.size)
        have n_s := Num.of_fr f_s (s_R.add sm_one (by omega))
        clear n_r n_1
        go_wp2_with fail
        refine (raise_numD (k := K) _ (by omega) n_s (by omega) s_2 HP2.out).mono ?_; rintro e w6 ⟨a_q, c_q, rfl, f_q, b6⟩
        replace n_a := n_a.below b6
        replace B := B.trans (b6.mono B.size)
        have n_q := Num.of_fr f_q s_P2
        go_wp2_with fail
        refine (rCompare_num n_q n_a).mono ?_; rintro e w7 ⟨rfl, b7⟩
        rw [HC2.out]
        replace B := B.trans (b7.mono B.size)
        go_wp2_with fail
        refine (awake_any _ (htab.below B)).mono ?_; rintro e w8 ⟨rfl, b8⟩
        have BE := B.trans (b8.mono B.size)
        go_wp2_with fail
        go_ret
        exact ⟨rfl, BE⟩
    · clear hz
      go_enter Tryd.func8, Tryd.ntmps8
      go_wp2_with fail
      refine (Cut_any _ _ _ u_a _ ha E_a.out).mono ?_; rintro e w' ⟨rfl, rfl⟩
      clear ha E_a
      go_wp2_with fail
      refine (Root_bad _ (by omega)).mono ?_; rintro e w' ⟨rfl, rfl⟩
      go_wp2_with fail
      refine (Fold_any z 40 (by omega) (by omega) _ 40 rfl).mono ?_; rintro e w' ⟨j, rfl, hj, rfl⟩
      obtain ⟨K, hK⟩ : ∃ K, K = 1 + j := ⟨_, rfl⟩
      have hk0 : 0 < K := by omega
      have hk : K ≤ 1024 := by omega
      go_wp2_with fail
      refine (Root_v (k := K) _ (by omega) n_a (sm_up s_a (by omega)) hk0 hk).mono ?_; rintro e w1 ⟨R, x, a_r, c_r, rfl, f_r, b1, hr, hx⟩
      have hRN := hr.le hk0
      have s_R := Sm.of_le s_a hRN
      have hlr := hlen R hRN
      have s_p := two_sm hr hRN s_a
      have s_2 := root_up hr hk0 hk s_a
      obtain ⟨c1, hc1, hcx⟩ : ∃ c1, cmpn (R ^ K) N = c1 ∧ ((c1 = 0 ∧ x = true) ∨ (c1 = -1 ∧ x = false)) := by
        rcases hx with ⟨h1, h2⟩ | ⟨h1, h2⟩
        · exact ⟨0, cmpn_eq h1, .inl ⟨rfl, h2⟩⟩
        · exact ⟨-1, cmpn_lt h1, .inr ⟨rfl, h2⟩⟩
      have hc2 : cmpn ((R + 1) ^ K) N = 1 := cmpn_gt hr.2
      obtain ⟨P, hP⟩ : ∃ P, R ^ K = P := ⟨_, rfl⟩
      obtain ⟨P2, hP2⟩ : ∃ P2, (R + 1) ^ K = P2 := ⟨_, rfl⟩
      have HP := Lib.hid hP
      have HP2 := Lib.hid hP2
      rw [hP] at hc1
      rw [hP2] at hc2
      have s_P : Sm P 30 := Sm.of_le s_p (by rw [← hP]; omega)
      have s_P2 : Sm P2 70 := Sm.of_le s_2 (by rw [← hP2]; omega)
      have HC1 := Lib.hid hc1
      have HC2 := Lib.hid hc2
      have n_r := Num.of_fr f_r s_R
      replace n_a := n_a.below b1
      have B := b1
      clear hr hx hRN hP hP2 hc1 hc2 hlen
      rcases hcx with ⟨rfl, rfl⟩ | ⟨rfl, rfl⟩
      all_goals
        go_wp2_with fail
        refine (canonical_dig f_r).mono ?_; rintro e w' ⟨rfl, rfl⟩
        go_wp2_with fail
        refine (raise_numD (k := K) _ (by omega) n_r (by omega) s_p HP.out).mono ?_; rintro e w2 ⟨a_p, c_p, rfl, f_p, b2⟩
        replace n_a := n_a.below b2
        replace n_r := n_r.below b2
        replace B := B.trans (b2.mono B.size)
        have n_p := Num.of_fr f_p s_P
        go_wp2_with fail
        refine (rCompare_num n_p n_a).mono ?_; rintro e w3 ⟨rfl, b3⟩
        rw [HC1.out]
        replace n_a := n_a.below b3
        replace n_r := n_r.below b3
        replace n_p := n_p.below b3
        replace B := B.trans (b3.mono B.size)
        go_wp2_with fail
        refine (rCompare_num n_p n_a).mono ?_; rintro e w4 ⟨rfl, b4⟩
        rw [HC1.out]
        replace n_a := n_a.below b4
        replace n_r := n_r.below b4
        replace B := B.trans (b4.mono B.size)
        have n_1 := one_new w4
        have bn := below_new w4 (.cells #[.int .u32 1] 35)
        replace n_a := n_a.below bn
        replace n_r := n_r.below bn
        replace B := B.trans (bn.mono B.size)
        clear bn n_p
        go_wp2_with fail
        refine (rAdd_num n_r n_1).mono ?_; rintro e w5 ⟨a_s, c_s, rfl, f_s, b5⟩
        replace n_a := n_a.below b5
        replace B := B.trans (b5.mono B.size)
        have n_s := Num.of_fr f_s (s_R.add sm_one (by omega))
        clear n_r n_1
        go_wp2_with fail
        refine (raise_numD (k := K) _ (by omega) n_s (by omega) s_2 HP2.out).mono ?_; rintro e w6 ⟨a_q, c_q, rfl, f_q, b6⟩
        replace n_a := n_a.below b6
        replace B := B.trans (b6.mono B.size)
        have n_q := Num.of_fr f_q s_P2
        go_wp2_with fail
        refine (rCompare_num n_q n_a).mono ?_; rintro e w7 ⟨rfl, b7⟩
        rw [HC2.out]
        replace B := B.trans (b7.mono B.size)
        go_wp2_with fail
        refine (awake_any _ (htab.below B)).mono ?_; rintro e w8 ⟨rfl, b8⟩
        have BE := B.trans (b8.mono B.size)
        go_wp2_with fail
        go_ret
        exact ⟨rfl, BE⟩
end Go.Proofs.YtaggodjplgmmhaaDoor
