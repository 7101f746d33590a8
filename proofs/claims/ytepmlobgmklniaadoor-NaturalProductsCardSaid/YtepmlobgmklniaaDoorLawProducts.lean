/- NaturalProducts: the walk. -/
import Derived.Test.YtepmlobgmklniaaDoorNum3
namespace Go.Proofs.YtepmlobgmklniaaDoor
open Go.RowKit

set_option maxHeartbeats 20000000 in
set_option maxRecDepth 100000 in
theorem NaturalProducts_any (ao bo : Option Addr) (ca cb : Nat) (xs ys : List Nat) (w : World) (ha : Rd w ao ca xs) (hb : Rd w bo cb ys) (htab : Tab w) :
    Calls Tryd.prog 6 #[.slice ao xs.length ca, .slice bo ys.length cb] w fun e w' => e = .returned (.bool true) ∧ Below w.heap.size w w' := by
  obtain ⟨N_a, n_a, s_a⟩ := cut_min (k := 40) ha (by omega) 40 rfl
  have hm_a := ha.max
  have hl_a := ha.le
  obtain ⟨N_b, n_b, s_b⟩ := cut_min (k := 40) hb (by omega) 40 rfl
  have hm_b := hb.max
  have hl_b := hb.le
  obtain ⟨m, n, t, hm, hn, ht, hcase⟩ := bl_cases N_a N_b
  have hmb : m ≤ 1280 := by rw [← hm]; exact bits_40 s_a
  have hnb : n ≤ 1280 := by rw [← hn]; exact bits_40 s_b
  have HM := Lib.hid hm
  have HN := Lib.hid hn
  have HT := Lib.hid ht
  clear hm hn ht ha hb
  rcases hcase with ⟨rfl, rfl⟩ | ⟨m0, rfl, rfl⟩ | ⟨m0, n0, rfl⟩ | ⟨m0, n0, rfl⟩
  all_goals
    go_enter Tryd.func6, Tryd.ntmps6
    go_wp2_with fail
    go_quiet (fail)
    have B := below_drewN (Below.refl w.heap.size w) nq
    replace n_a := n_a.below B
    replace n_b := n_b.below B
    go_wp2_with fail
    refine (Mul_num n_a n_b).mono ?_; rintro e w1 ⟨a_p, c_p, rfl, f_p, b1⟩
    replace n_a := n_a.below b1
    replace n_b := n_b.below b1
    replace B := B.trans (b1.mono B.size)
    have s_p := s_a.mul s_b (by omega)
    have n_p := Num.of_fr f_p s_p
    go_wp2_with fail
    refine (rBits_num n_a).mono ?_; rintro e w' ⟨rfl, rfl⟩
    rw [HM.out]
    go_wp2_with fail
    refine (rBits_num n_b).mono ?_; rintro e w' ⟨rfl, rfl⟩
    rw [HN.out]
    go_wp2_with fail
    refine (Bits_num n_p).mono ?_; rintro e w' ⟨rfl, rfl⟩
    rw [HT.out]
    go_wp2_with fail
    refine (rMul_num n_a n_b).mono ?_; rintro e w2 ⟨a_r, c_r, rfl, f_r, b2⟩
    replace n_a := n_a.below b2
    replace n_b := n_b.below b2
    replace n_p := n_p.below b2
    replace f_p := f_p.below b2
    replace B := B.trans (b2.mono B.size)
    have s_r := s_a.mul s_b (by omega)
    have n_r := Num.of_fr f_r s_r
    go_wp2_with fail
    refine (Same_num f_p f_r (rfl)).mono ?_; rintro e w3 ⟨rfl, b3⟩
    replace n_a := n_a.below b3
    replace n_b := n_b.below b3
    replace n_p := n_p.below b3
    replace f_p := f_p.below b3
    replace n_r := n_r.below b3
    replace f_r := f_r.below b3
    replace B := B.trans (b3.mono B.size)
    go_wp2_with fail
    refine (awake_any _ (htab.below B)).mono ?_; rintro e w4 ⟨rfl, b4⟩
    have BE := B.trans (b4.mono B.size)
    go_wp2_with fail
    all_goals first
      | (go_ret; exact ⟨rfl, BE⟩)
      | (exfalso; rename_i hx; apply hx
         rw [beq_eq_false_iff_ne.2 (show (m : Int) ≠ 0 by omega), beq_eq_false_iff_ne.2 (show (n : Int) ≠ 0 by omega)]
         symm; exact beq_eq_false_iff_ne.2 (by omega))
end Go.Proofs.YtepmlobgmklniaaDoor
