/- NaturalExact: the walk. -/
import Derived.Test.YtaggodjplgmmhaaDoorNum5
namespace Go.Proofs.YtaggodjplgmmhaaDoor
open Go.RowKit

set_option maxHeartbeats 20000000 in
set_option maxRecDepth 100000 in
theorem NaturalExact_any (ao bo : Option Addr) (ca cb : Nat) (xs ys : List Nat) (w : World) (ha : Rd w ao ca xs) (hb : Rd w bo cb ys) (htab : Tab w) :
    Calls Tryd.prog 4 #[.slice ao xs.length ca, .slice bo ys.length cb] w fun e w' => e = .returned (.bool true) ∧ Below w.heap.size w w' := by
  obtain ⟨u_a, e_a⟩ : ∃ u, u = xs.take 12 := ⟨_, rfl⟩
  obtain ⟨n_a, s_a⟩ := Cut_num ha e_a
  obtain ⟨u_b, e_b⟩ : ∃ u, u = ys.take 12 := ⟨_, rfl⟩
  obtain ⟨n_b, s_b⟩ := Cut_num hb e_b
  have E_a := Lib.hid e_a
  have E_b := Lib.hid e_b
  clear e_a e_b
  obtain ⟨A, hA⟩ : ∃ A, val u_a = A := ⟨_, rfl⟩
  obtain ⟨B', hB⟩ : ∃ B, val u_b = B := ⟨_, rfl⟩
  rw [hA] at n_a s_a
  rw [hB] at n_b s_b
  clear hA hB
  obtain ⟨ma, hma⟩ : ∃ m, bl A = m := ⟨_, rfl⟩
  obtain ⟨mb, hmb⟩ : ∃ m, bl B' = m := ⟨_, rfl⟩
  have HMA := Lib.hid hma
  have HMB := Lib.hid hmb
  have hba : ma ≤ 384 := by rw [← hma]; exact bits_of s_a
  have hbb : mb ≤ 384 := by rw [← hmb]; exact bits_of s_b
  have hpa : 0 < A → 0 < ma := fun h => by rw [← hma]; exact bl_pos h
  have hpb : 0 < B' → 0 < mb := fun h => by rw [← hmb]; exact bl_pos h
  have hza : A = 0 → ma = 0 := fun h => by rw [← hma, h]; rfl
  have hzb : B' = 0 → mb = 0 := fun h => by rw [← hmb, h]; rfl
  clear hma hmb
  by_cases hz : A = 0 ∨ B' = 0
  · have hcase : (ma = 0) ∨ (0 < ma ∧ mb = 0) := by
      rcases Nat.eq_zero_or_pos A with h | h
      · exact .inl (hza h)
      · rcases hz with h2 | h2
        · omega
        · exact .inr ⟨hpa h, hzb h2⟩
    clear hz hpa hpb hza hzb
    rcases hcase with rfl | ⟨hm0, rfl⟩
    · go_enter Tryd.func4, Tryd.ntmps4
      go_wp2_with fail
      refine (Cut_any _ _ _ u_a _ ha E_a.out).mono ?_; rintro e w' ⟨rfl, rfl⟩
      go_wp2_with fail
      refine (Cut_any _ _ _ u_b _ hb E_b.out).mono ?_; rintro e w' ⟨rfl, rfl⟩
      go_wp2_with fail
      refine (rBits_num n_a).mono ?_; rintro e w' ⟨rfl, rfl⟩
      rw [HMA.out]
      go_wp2_with fail
      refine (awake_any _ htab).mono ?_; rintro e w4 ⟨rfl, b4⟩
      go_wp2_with fail
      go_ret
      exact ⟨rfl, b4⟩
    · have hd : ((ma : Int) == 0) = false := beq_eq_false_iff_ne.2 (by omega)
      go_enter Tryd.func4, Tryd.ntmps4
      go_wp2_with fail
      refine (Cut_any _ _ _ u_a _ ha E_a.out).mono ?_; rintro e w' ⟨rfl, rfl⟩
      go_wp2_with fail
      refine (Cut_any _ _ _ u_b _ hb E_b.out).mono ?_; rintro e w' ⟨rfl, rfl⟩
      go_wp2_with fail
      refine (rBits_num n_a).mono ?_; rintro e w' ⟨rfl, rfl⟩
      rw [HMA.out]
      go_wp2_with fail
      refine (rBits_num n_b).mono ?_; rintro e w' ⟨rfl, rfl⟩
      rw [HMB.out]
      go_wp2_with fail
      refine (awake_any _ htab).mono ?_; rintro e w4 ⟨rfl, b4⟩
      go_wp2_with fail
      go_ret
      exact ⟨rfl, b4⟩
  · have hA0 : 0 < A := by omega
    have hB0 : 0 < B' := by omega
    have hd1 : ((ma : Int) == 0) = false := beq_eq_false_iff_ne.2 (by have := hpa hA0; omega)
    have hd2 : ((mb : Int) == 0) = false := beq_eq_false_iff_ne.2 (by have := hpb hB0; omega)
    have hq1 := Lib.hid (Nat.mul_div_cancel A hB0)
    have hq2 := Lib.hid (Nat.mul_mod_left A B')
    have hq3 := Lib.hid (exact_less hA0 hB0)
    have hq4 := Lib.hid (show A - 1 + 1 = A by omega)
    have hq5 := Lib.hid (show B' - 1 + 1 = B' by omega)
    have hq6 := Lib.hid (show 1 ≤ A * B' from Nat.mul_pos hA0 hB0)
    have HB0 := Lib.hid hB0
    obtain ⟨D, hD⟩ : ∃ D, A * B' - 1 = D := ⟨_, rfl⟩
    obtain ⟨A1, hA1⟩ : ∃ x, A - 1 = x := ⟨_, rfl⟩
    obtain ⟨B1, hB1⟩ : ∃ x, B' - 1 = x := ⟨_, rfl⟩
    rw [hD, hA1, hB1] at hq3
    rw [hA1] at hq4
    rw [hB1] at hq5
    have HD := Lib.hid hD
    have s_p : Sm (A * B') 24 := s_a.mul s_b (by omega)
    have s_d : Sm D 24 := by rw [← hD]; exact Sm.of_le s_p (Nat.sub_le _ _)
    have s_s : Sm A1 12 := by rw [← hA1]; exact Sm.of_le s_a (Nat.sub_le _ _)
    have s_t : Sm B1 12 := by rw [← hB1]; exact Sm.of_le s_b (Nat.sub_le _ _)
    clear hD hA1 hB1 hz hpa hpb hza hzb hA0 hB0
    go_enter Tryd.func4, Tryd.ntmps4
    go_wp2_with fail
    refine (Cut_any _ _ _ u_a _ ha E_a.out).mono ?_; rintro e w' ⟨rfl, rfl⟩
    go_wp2_with fail
    refine (Cut_any _ _ _ u_b _ hb E_b.out).mono ?_; rintro e w' ⟨rfl, rfl⟩
    clear ha hb E_a E_b
    go_wp2_with fail
    refine (rBits_num n_a).mono ?_; rintro e w' ⟨rfl, rfl⟩
    rw [HMA.out]
    go_wp2_with fail
    refine (rBits_num n_b).mono ?_; rintro e w' ⟨rfl, rfl⟩
    rw [HMB.out]
    go_wp2_with fail
    refine (rMul_num n_a n_b).mono ?_; rintro e w1 ⟨a_p, c_p, rfl, f_p, b1⟩
    have B := b1
    replace n_a := n_a.below b1
    replace n_b := n_b.below b1
    have n_p := Num.of_fr f_p s_p
    go_wp2_with fail
    refine (Divide_numD n_p n_b HB0.out hq1.out hq2.out).mono ?_; rintro e w2 ⟨a_q, c_q, a_r, c_r, rfl, f_q, f_r, b2⟩
    rw [dig0]
    replace n_a := n_a.below b2
    replace n_b := n_b.below b2
    replace n_p := n_p.below b2
    replace B := B.trans (b2.mono B.size)
    have n_1 := one_new w2
    have bn := below_new w2 (.cells #[.int .u32 1] 35)
    replace n_a := n_a.below bn
    replace n_b := n_b.below bn
    replace n_p := n_p.below bn
    replace f_q := f_q.below bn
    replace B := B.trans (bn.mono B.size)
    clear bn
    go_wp2_with fail
    refine (rSub_numD n_p n_1 hq6.out HD.out).mono ?_; rintro e w3 ⟨a_d, c_d, rfl, f_d, b3⟩
    replace n_a := n_a.below b3
    replace n_b := n_b.below b3
    replace f_q := f_q.below b3
    replace B := B.trans (b3.mono B.size)
    have n_d := Num.of_fr f_d s_d
    clear n_p n_1
    go_wp2_with fail
    refine (Divide_numD n_d n_b HB0.out hq3.out.1 hq3.out.2).mono ?_; rintro e w4 ⟨a_s, c_s, a_t, c_t, rfl, f_s, f_t, b4⟩
    replace n_a := n_a.below b4
    replace n_b := n_b.below b4
    replace f_q := f_q.below b4
    replace B := B.trans (b4.mono B.size)
    go_wp2_with fail
    refine (rTrim_num n_a).mono ?_; rintro e w5 ⟨a_x, c_x, rfl, f_x, b5⟩
    replace n_a := n_a.below b5
    replace n_b := n_b.below b5
    replace f_q := f_q.below b5
    replace f_s := f_s.below b5
    replace f_t := f_t.below b5
    replace B := B.trans (b5.mono B.size)
    go_wp2_with fail
    refine (Same_num f_q f_x rfl).mono ?_; rintro e w6 ⟨rfl, b6⟩
    replace n_a := n_a.below b6
    replace n_b := n_b.below b6
    replace f_s := f_s.below b6
    replace f_t := f_t.below b6
    replace B := B.trans (b6.mono B.size)
    have n_1 := one_new w6
    have bn := below_new w6 (.cells #[.int .u32 1] 35)
    replace n_a := n_a.below bn
    replace n_b := n_b.below bn
    replace f_s := f_s.below bn
    replace f_t := f_t.below bn
    replace B := B.trans (bn.mono B.size)
    have n_s := Num.of_fr f_s s_s
    clear bn
    go_wp2_with fail
    refine (rAdd_numD n_s n_1 hq4.out).mono ?_; rintro e w7 ⟨a_u, c_u, rfl, f_u, b7⟩
    replace n_a := n_a.below b7
    replace n_b := n_b.below b7
    replace f_t := f_t.below b7
    replace B := B.trans (b7.mono B.size)
    go_wp2_with fail
    refine (rTrim_num n_a).mono ?_; rintro e w8 ⟨a_y, c_y, rfl, f_y, b8⟩
    replace n_b := n_b.below b8
    replace f_t := f_t.below b8
    replace f_u := f_u.below b8
    replace B := B.trans (b8.mono B.size)
    go_wp2_with fail
    refine (Same_num f_u f_y rfl).mono ?_; rintro e w9 ⟨rfl, b9⟩
    replace n_b := n_b.below b9
    replace f_t := f_t.below b9
    replace B := B.trans (b9.mono B.size)
    have n_1' := one_new w9
    have bn := below_new w9 (.cells #[.int .u32 1] 35)
    replace n_b := n_b.below bn
    replace f_t := f_t.below bn
    replace B := B.trans (bn.mono B.size)
    have n_t := Num.of_fr f_t s_t
    clear bn n_1 n_s
    go_wp2_with fail
    refine (rAdd_numD n_t n_1' hq5.out).mono ?_; rintro e w10 ⟨a_v, c_v, rfl, f_v, b10⟩
    replace n_b := n_b.below b10
    replace B := B.trans (b10.mono B.size)
    go_wp2_with fail
    refine (rTrim_num n_b).mono ?_; rintro e w11 ⟨a_z, c_z, rfl, f_z, b11⟩
    replace f_v := f_v.below b11
    replace B := B.trans (b11.mono B.size)
    go_wp2_with fail
    refine (Same_num f_v f_z rfl).mono ?_; rintro e w12 ⟨rfl, b12⟩
    replace B := B.trans (b12.mono B.size)
    go_wp2_with fail
    refine (awake_any _ (htab.below B)).mono ?_; rintro e w13 ⟨rfl, b13⟩
    have BE := B.trans (b13.mono B.size)
    go_wp2_with fail
    go_ret
    exact ⟨rfl, BE⟩
end Go.Proofs.YtaggodjplgmmhaaDoor
