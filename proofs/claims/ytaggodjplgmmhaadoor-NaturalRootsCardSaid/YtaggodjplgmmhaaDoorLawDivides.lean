/- NaturalDivides: the walk. -/
import Derived.Test.YtaggodjplgmmhaaDoorDiv4
namespace Go.Proofs.YtaggodjplgmmhaaDoor
open Go.RowKit

set_option maxHeartbeats 400000 in
theorem canonical_any (ao : Option Addr) (cap : Nat) (xs : List Nat) (w : World) (h : Rd w ao cap xs) (hc : Canon xs) :
    Calls Tryd.prog 16 #[.slice ao xs.length cap] w fun e w' => e = .returned (.bool true) ∧ w = w' := by
  have hm := h.max
  have hle := h.le
  rcases Nat.eq_zero_or_pos xs.length with h0 | h0
  · have hd : ((xs.length : Int) == 0) = true := beq_iff_eq.2 (by omega)
    clear hc
    go_enter Tryd.func16, Tryd.ntmps16
    go_wp2
    go_ret
    exact ⟨rfl, rfl⟩
  · obtain ⟨b, o, rfl, hcl⟩ := h.at h0
    have hci := hcl (xs.length - 1) (by omega)
    have hd : ((xs.length : Int) == 0) = false := beq_eq_false_iff_ne.2 (by omega)
    have hx := h.lims (xs.length - 1)
    obtain ⟨t, ht⟩ : ∃ t, t = lm xs (xs.length - 1) := ⟨_, rfl⟩
    have ht0 : t ≠ 0 := by
      rcases hc with e | e
      · rw [e] at h0; simp at h0
      · rw [ht]; exact e
    rw [← ht] at hci hx
    have hd2 : ((t : Int) != 0) = true := by rw [bne_iff_ne]; omega
    clear hcl hc ht ht0
    go_enter Tryd.func16, Tryd.ntmps16
    go_wp2
    go_ret
    exact ⟨rfl, rfl⟩
theorem canonical_dig {B : Nat} {ao : Option Addr} {cap N : Nat} {w : World} (h : Fr B w ao cap (dig N)) : Calls Tryd.prog 16 #[.slice ao (dig N).length cap] w fun e w' => e = .returned (.bool true) ∧ w = w' :=
  canonical_any ao cap (dig N) w h.rd (canon_dig N)

set_option maxHeartbeats 20000000 in
set_option maxRecDepth 100000 in
theorem NaturalDivides_any (ao bo : Option Addr) (ca cb : Nat) (xs ys : List Nat) (w : World) (ha : Rd w ao ca xs) (hb : Rd w bo cb ys) (htab : Tab w) :
    Calls Tryd.prog 3 #[.slice ao xs.length ca, .slice bo ys.length cb] w fun e w' => e = .returned (.bool true) ∧ Below w.heap.size w w' := by
  obtain ⟨N_a, n_a, s_a⟩ := cut_min (k := 40) ha (by omega) 40 rfl
  have hm_a := ha.max
  have hl_a := ha.le
  obtain ⟨N_b, n_b, s_b⟩ := cut_min (k := 40) hb (by omega) 40 rfl
  have hm_b := hb.max
  have hl_b := hb.le
  clear ha hb
  rcases Nat.eq_zero_or_pos N_b with hz | hp
  · have HZ := Lib.hid hz
    have HB := Lib.hid (show bl N_b = 0 by rw [hz]; rfl)
    clear hz
    go_enter Tryd.func3, Tryd.ntmps3
    go_wp2_with fail
    go_quiet (fail)
    have B := below_drewN (Below.refl w.heap.size w) nq
    replace n_a := n_a.below B
    replace n_b := n_b.below B
    go_wp2_with fail
    refine (Divide_zero_num n_a n_b HZ.out).mono ?_; rintro e w' ⟨rfl, rfl⟩
    go_wp2_with fail
    refine (rBits_num n_b).mono ?_; rintro e w' ⟨rfl, rfl⟩
    rw [HB.out]
    go_wp2_with fail
    refine (awake_any _ (htab.below B)).mono ?_; rintro e w4 ⟨rfl, b4⟩
    have BE := B.trans (b4.mono B.size)
    go_wp2_with fail
    go_ret
    exact ⟨rfl, BE⟩
  · have HP := Lib.hid hp
    obtain ⟨m, hm, hm0⟩ : ∃ m, bl N_b = m ∧ 0 < m := ⟨_, rfl, bl_pos hp⟩
    have hmb : m ≤ 1280 := by rw [← hm]; exact bits_40 s_b
    have HB := Lib.hid hm
    have hdz : ((m : Int) == 0) = false := beq_eq_false_iff_ne.2 (by omega)
    have hcl := Lib.hid (cmpn_lt (Nat.mod_lt N_a hp))
    have hce := Lib.hid (cmpn_eq (show N_a / N_b * N_b + N_a % N_b = N_a by rw [Nat.mul_comm]; exact Nat.div_add_mod _ _))
    have s_q : Sm (N_a / N_b) 40 := Sm.of_le s_a (Nat.div_le_self _ _)
    have s_r : Sm (N_a % N_b) 40 := Sm.of_le s_a (Nat.mod_le _ _)
    clear hp hm
    go_enter Tryd.func3, Tryd.ntmps3
    go_wp2_with fail
    go_quiet (fail)
    have B := below_drewN (Below.refl w.heap.size w) nq
    replace n_a := n_a.below B
    replace n_b := n_b.below B
    go_wp2_with fail
    refine (Divide_num n_a n_b HP.out).mono ?_; rintro e w1 ⟨qo, qc, ro, rc, rfl, f_q, f_r, b1⟩
    replace n_a := n_a.below b1
    replace n_b := n_b.below b1
    replace B := B.trans (b1.mono B.size)
    have n_q := Num.of_fr f_q s_q
    have n_r := Num.of_fr f_r s_r
    go_wp2_with fail
    refine (rBits_num n_b).mono ?_; rintro e w' ⟨rfl, rfl⟩
    rw [HB.out]
    go_wp2_with fail
    refine (canonical_dig f_q).mono ?_; rintro e w' ⟨rfl, rfl⟩
    go_wp2_with fail
    refine (canonical_dig f_r).mono ?_; rintro e w' ⟨rfl, rfl⟩
    go_wp2_with fail
    refine (rCompare_num n_r n_b).mono ?_; rintro e w2 ⟨rfl, b2⟩
    rw [hcl.out]
    replace n_a := n_a.below b2
    replace n_b := n_b.below b2
    replace n_q := n_q.below b2
    replace n_r := n_r.below b2
    replace B := B.trans (b2.mono B.size)
    go_wp2_with fail
    refine (rMul_num n_q n_b).mono ?_; rintro e w3 ⟨a_p, c_p, rfl, f_p, b3⟩
    replace n_a := n_a.below b3
    replace n_r := n_r.below b3
    replace B := B.trans (b3.mono B.size)
    have s_p := s_q.mul s_b (by omega)
    have n_p := Num.of_fr f_p s_p
    go_wp2_with fail
    refine (rAdd_num n_p n_r).mono ?_; rintro e w4 ⟨a_t, c_t, rfl, f_t, b4⟩
    replace n_a := n_a.below b4
    replace B := B.trans (b4.mono B.size)
    have n_t := Num.of_fr f_t (s_p.add s_r (by omega))
    go_wp2_with fail
    refine (rCompare_num n_t n_a).mono ?_; rintro e w5 ⟨rfl, b5⟩
    rw [hce.out]
    replace B := B.trans (b5.mono B.size)
    go_wp2_with fail
    refine (awake_any _ (htab.below B)).mono ?_; rintro e w6 ⟨rfl, b6⟩
    have BE := B.trans (b6.mono B.size)
    go_wp2_with fail
    go_ret
    exact ⟨rfl, BE⟩
end Go.Proofs.YtaggodjplgmmhaaDoor
