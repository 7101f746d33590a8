/- NaturalRing: the walk. -/
import Derived.Test.YtepmlobgmklniaaDoorNum
namespace Go.Proofs.YtepmlobgmklniaaDoor
open Go.RowKit

set_option maxHeartbeats 8000000 in
set_option maxRecDepth 100000 in
theorem NaturalRing_any (ao bo co : Option Addr) (ca cb cc : Nat) (xs ys zs : List Nat) (w : World) (ha : Rd w ao ca xs) (hb : Rd w bo cb ys) (hc : Rd w co cc zs) (htab : Tab w) :
    Calls Tryd.prog 7 #[.slice ao xs.length ca, .slice bo ys.length cb, .slice co zs.length cc] w fun e w' => e = .returned (.bool true) ∧ Below w.heap.size w w' := by
  obtain ⟨u_a, e_a⟩ : ∃ u, u = xs.take 12 := ⟨_, rfl⟩
  obtain ⟨n_a, s_a⟩ := Cut_num ha e_a
  obtain ⟨u_b, e_b⟩ : ∃ u, u = ys.take 12 := ⟨_, rfl⟩
  obtain ⟨n_b, s_b⟩ := Cut_num hb e_b
  obtain ⟨u_c, e_c⟩ : ∃ u, u = zs.take 12 := ⟨_, rfl⟩
  obtain ⟨n_c, s_c⟩ := Cut_num hc e_c
  have E_a := Lib.hid e_a
  have E_b := Lib.hid e_b
  have E_c := Lib.hid e_c
  clear e_a e_b e_c
  go_enter Tryd.func7, Tryd.ntmps7
  go_wp2_with fail
  refine (Cut_any _ _ _ u_a _ ha E_a.out).mono ?_; rintro e w' ⟨rfl, rfl⟩
  go_wp2_with fail
  refine (Cut_any _ _ _ u_b _ hb E_b.out).mono ?_; rintro e w' ⟨rfl, rfl⟩
  go_wp2_with fail
  refine (Cut_any _ _ _ u_c _ hc E_c.out).mono ?_; rintro e w' ⟨rfl, rfl⟩
  clear ha hb hc E_a E_b E_c
  go_wp2_with fail
  refine (Add_num n_a n_b).mono ?_; rintro e w1 ⟨a_r1, c_r1, rfl, f_r1, b1⟩
  replace n_a := n_a.below b1
  replace n_b := n_b.below b1
  replace n_c := n_c.below b1
  have B := b1
  have s_r1 := s_a.add s_b (by omega)
  have n_r1 := Num.of_fr f_r1 s_r1
  go_wp2_with fail
  refine (Add_num n_b n_a).mono ?_; rintro e w2 ⟨a_r2, c_r2, rfl, f_r2, b2⟩
  replace n_a := n_a.below b2
  replace n_b := n_b.below b2
  replace n_c := n_c.below b2
  replace n_r1 := n_r1.below b2
  replace f_r1 := f_r1.below b2
  replace B := B.trans (b2.mono B.size)
  have s_r2 := s_b.add s_a (by omega)
  have n_r2 := Num.of_fr f_r2 s_r2
  go_wp2_with fail
  refine (Same_num f_r1 f_r2 (by grind)).mono ?_; rintro e w3 ⟨rfl, b3⟩
  replace n_a := n_a.below b3
  replace n_b := n_b.below b3
  replace n_c := n_c.below b3
  replace n_r1 := n_r1.below b3
  replace f_r1 := f_r1.below b3
  replace n_r2 := n_r2.below b3
  replace f_r2 := f_r2.below b3
  replace B := B.trans (b3.mono B.size)
  clear f_r1 n_r1
  clear f_r2 n_r2
  go_wp2_with fail
  refine (Add_num n_a n_b).mono ?_; rintro e w4 ⟨a_r3, c_r3, rfl, f_r3, b4⟩
  replace n_a := n_a.below b4
  replace n_b := n_b.below b4
  replace n_c := n_c.below b4
  replace B := B.trans (b4.mono B.size)
  have s_r3 := s_a.add s_b (by omega)
  have n_r3 := Num.of_fr f_r3 s_r3
  go_wp2_with fail
  refine (Add_num n_r3 n_c).mono ?_; rintro e w5 ⟨a_r4, c_r4, rfl, f_r4, b5⟩
  replace n_a := n_a.below b5
  replace n_b := n_b.below b5
  replace n_c := n_c.below b5
  replace n_r3 := n_r3.below b5
  replace f_r3 := f_r3.below b5
  replace B := B.trans (b5.mono B.size)
  have s_r4 := s_r3.add s_c (by omega)
  have n_r4 := Num.of_fr f_r4 s_r4
  go_wp2_with fail
  refine (Add_num n_b n_c).mono ?_; rintro e w6 ⟨a_r5, c_r5, rfl, f_r5, b6⟩
  replace n_a := n_a.below b6
  replace n_b := n_b.below b6
  replace n_c := n_c.below b6
  replace n_r3 := n_r3.below b6
  replace f_r3 := f_r3.below b6
  replace n_r4 := n_r4.below b6
  replace f_r4 := f_r4.below b6
  replace B := B.trans (b6.mono B.size)
  have s_r5 := s_b.add s_c (by omega)
  have n_r5 := Num.of_fr f_r5 s_r5
  go_wp2_with fail
  refine (Add_num n_a n_r5).mono ?_; rintro e w7 ⟨a_r6, c_r6, rfl, f_r6, b7⟩
  replace n_a := n_a.below b7
  replace n_b := n_b.below b7
  replace n_c := n_c.below b7
  replace n_r3 := n_r3.below b7
  replace f_r3 := f_r3.below b7
  replace n_r4 := n_r4.below b7
  replace f_r4 := f_r4.below b7
  replace n_r5 := n_r5.below b7
  replace f_r5 := f_r5.below b7
  replace B := B.trans (b7.mono B.size)
  have s_r6 := s_a.add s_r5 (by omega)
  have n_r6 := Num.of_fr f_r6 s_r6
  go_wp2_with fail
  refine (Same_num f_r4 f_r6 (by grind)).mono ?_; rintro e w8 ⟨rfl, b8⟩
  replace n_a := n_a.below b8
  replace n_b := n_b.below b8
  replace n_c := n_c.below b8
  replace n_r3 := n_r3.below b8
  replace f_r3 := f_r3.below b8
  replace n_r4 := n_r4.below b8
  replace f_r4 := f_r4.below b8
  replace n_r5 := n_r5.below b8
  replace f_r5 := f_r5.below b8
  replace n_r6 := n_r6.below b8
  replace f_r6 := f_r6.below b8
  replace B := B.trans (b8.mono B.size)
  clear f_r4 n_r4
  clear f_r6 n_r6
  clear f_r3 n_r3
  clear f_r5 n_r5
  go_wp2_with fail
  refine (Mul_num n_a n_b).mono ?_; rintro e w9 ⟨a_r7, c_r7, rfl, f_r7, b9⟩
  replace n_a := n_a.below b9
  replace n_b := n_b.below b9
  replace n_c := n_c.below b9
  replace B := B.trans (b9.mono B.size)
  have s_r7 := s_a.mul s_b (by omega)
  have n_r7 := Num.of_fr f_r7 s_r7
  go_wp2_with fail
  refine (Mul_num n_b n_a).mono ?_; rintro e w10 ⟨a_r8, c_r8, rfl, f_r8, b10⟩
  replace n_a := n_a.below b10
  replace n_b := n_b.below b10
  replace n_c := n_c.below b10
  replace n_r7 := n_r7.below b10
  replace f_r7 := f_r7.below b10
  replace B := B.trans (b10.mono B.size)
  have s_r8 := s_b.mul s_a (by omega)
  have n_r8 := Num.of_fr f_r8 s_r8
  go_wp2_with fail
  refine (Same_num f_r7 f_r8 (by grind)).mono ?_; rintro e w11 ⟨rfl, b11⟩
  replace n_a := n_a.below b11
  replace n_b := n_b.below b11
  replace n_c := n_c.below b11
  replace n_r7 := n_r7.below b11
  replace f_r7 := f_r7.below b11
  replace n_r8 := n_r8.below b11
  replace f_r8 := f_r8.below b11
  replace B := B.trans (b11.mono B.size)
  clear f_r7 n_r7
  clear f_r8 n_r8
  go_wp2_with fail
  refine (Mul_num n_a n_b).mono ?_; rintro e w12 ⟨a_r9, c_r9, rfl, f_r9, b12⟩
  replace n_a := n_a.below b12
  replace n_b := n_b.below b12
  replace n_c := n_c.below b12
  replace B := B.trans (b12.mono B.size)
  have s_r9 := s_a.mul s_b (by omega)
  have n_r9 := Num.of_fr f_r9 s_r9
  go_wp2_with fail
  refine (Mul_num n_r9 n_c).mono ?_; rintro e w13 ⟨a_r10, c_r10, rfl, f_r10, b13⟩
  replace n_a := n_a.below b13
  replace n_b := n_b.below b13
  replace n_c := n_c.below b13
  replace n_r9 := n_r9.below b13
  replace f_r9 := f_r9.below b13
  replace B := B.trans (b13.mono B.size)
  have s_r10 := s_r9.mul s_c (by omega)
  have n_r10 := Num.of_fr f_r10 s_r10
  go_wp2_with fail
  refine (Mul_num n_b n_c).mono ?_; rintro e w14 ⟨a_r11, c_r11, rfl, f_r11, b14⟩
  replace n_a := n_a.below b14
  replace n_b := n_b.below b14
  replace n_c := n_c.below b14
  replace n_r9 := n_r9.below b14
  replace f_r9 := f_r9.below b14
  replace n_r10 := n_r10.below b14
  replace f_r10 := f_r10.below b14
  replace B := B.trans (b14.mono B.size)
  have s_r11 := s_b.mul s_c (by omega)
  have n_r11 := Num.of_fr f_r11 s_r11
  go_wp2_with fail
  refine (Mul_num n_a n_r11).mono ?_; rintro e w15 ⟨a_r12, c_r12, rfl, f_r12, b15⟩
  replace n_a := n_a.below b15
  replace n_b := n_b.below b15
  replace n_c := n_c.below b15
  replace n_r9 := n_r9.below b15
  replace f_r9 := f_r9.below b15
  replace n_r10 := n_r10.below b15
  replace f_r10 := f_r10.below b15
  replace n_r11 := n_r11.below b15
  replace f_r11 := f_r11.below b15
  replace B := B.trans (b15.mono B.size)
  have s_r12 := s_a.mul s_r11 (by omega)
  have n_r12 := Num.of_fr f_r12 s_r12
  go_wp2_with fail
  refine (Same_num f_r10 f_r12 (by grind)).mono ?_; rintro e w16 ⟨rfl, b16⟩
  replace n_a := n_a.below b16
  replace n_b := n_b.below b16
  replace n_c := n_c.below b16
  replace n_r9 := n_r9.below b16
  replace f_r9 := f_r9.below b16
  replace n_r10 := n_r10.below b16
  replace f_r10 := f_r10.below b16
  replace n_r11 := n_r11.below b16
  replace f_r11 := f_r11.below b16
  replace n_r12 := n_r12.below b16
  replace f_r12 := f_r12.below b16
  replace B := B.trans (b16.mono B.size)
  clear f_r10 n_r10
  clear f_r12 n_r12
  clear f_r9 n_r9
  clear f_r11 n_r11
  go_wp2_with fail
  refine (Add_num n_b n_c).mono ?_; rintro e w17 ⟨a_r13, c_r13, rfl, f_r13, b17⟩
  replace n_a := n_a.below b17
  replace n_b := n_b.below b17
  replace n_c := n_c.below b17
  replace B := B.trans (b17.mono B.size)
  have s_r13 := s_b.add s_c (by omega)
  have n_r13 := Num.of_fr f_r13 s_r13
  go_wp2_with fail
  refine (Mul_num n_a n_r13).mono ?_; rintro e w18 ⟨a_r14, c_r14, rfl, f_r14, b18⟩
  replace n_a := n_a.below b18
  replace n_b := n_b.below b18
  replace n_c := n_c.below b18
  replace n_r13 := n_r13.below b18
  replace f_r13 := f_r13.below b18
  replace B := B.trans (b18.mono B.size)
  have s_r14 := s_a.mul s_r13 (by omega)
  have n_r14 := Num.of_fr f_r14 s_r14
  go_wp2_with fail
  refine (Mul_num n_a n_b).mono ?_; rintro e w19 ⟨a_r15, c_r15, rfl, f_r15, b19⟩
  replace n_a := n_a.below b19
  replace n_b := n_b.below b19
  replace n_c := n_c.below b19
  replace n_r13 := n_r13.below b19
  replace f_r13 := f_r13.below b19
  replace n_r14 := n_r14.below b19
  replace f_r14 := f_r14.below b19
  replace B := B.trans (b19.mono B.size)
  have s_r15 := s_a.mul s_b (by omega)
  have n_r15 := Num.of_fr f_r15 s_r15
  go_wp2_with fail
  refine (Mul_num n_a n_c).mono ?_; rintro e w20 ⟨a_r16, c_r16, rfl, f_r16, b20⟩
  replace n_a := n_a.below b20
  replace n_b := n_b.below b20
  replace n_c := n_c.below b20
  replace n_r13 := n_r13.below b20
  replace f_r13 := f_r13.below b20
  replace n_r14 := n_r14.below b20
  replace f_r14 := f_r14.below b20
  replace n_r15 := n_r15.below b20
  replace f_r15 := f_r15.below b20
  replace B := B.trans (b20.mono B.size)
  have s_r16 := s_a.mul s_c (by omega)
  have n_r16 := Num.of_fr f_r16 s_r16
  go_wp2_with fail
  refine (Add_num n_r15 n_r16).mono ?_; rintro e w21 ⟨a_r17, c_r17, rfl, f_r17, b21⟩
  replace n_a := n_a.below b21
  replace n_b := n_b.below b21
  replace n_c := n_c.below b21
  replace n_r13 := n_r13.below b21
  replace f_r13 := f_r13.below b21
  replace n_r14 := n_r14.below b21
  replace f_r14 := f_r14.below b21
  replace n_r15 := n_r15.below b21
  replace f_r15 := f_r15.below b21
  replace n_r16 := n_r16.below b21
  replace f_r16 := f_r16.below b21
  replace B := B.trans (b21.mono B.size)
  have s_r17 := s_r15.add s_r16 (by omega)
  have n_r17 := Num.of_fr f_r17 s_r17
  go_wp2_with fail
  refine (Same_num f_r14 f_r17 (by grind)).mono ?_; rintro e w22 ⟨rfl, b22⟩
  replace n_a := n_a.below b22
  replace n_b := n_b.below b22
  replace n_c := n_c.below b22
  replace n_r13 := n_r13.below b22
  replace f_r13 := f_r13.below b22
  replace n_r14 := n_r14.below b22
  replace f_r14 := f_r14.below b22
  replace n_r15 := n_r15.below b22
  replace f_r15 := f_r15.below b22
  replace n_r16 := n_r16.below b22
  replace f_r16 := f_r16.below b22
  replace n_r17 := n_r17.below b22
  replace f_r17 := f_r17.below b22
  replace B := B.trans (b22.mono B.size)
  clear f_r14 n_r14
  clear f_r17 n_r17
  clear f_r13 n_r13
  clear f_r15 n_r15
  clear f_r16 n_r16
  go_wp2_with fail
  refine (awake_any _ (htab.below B)).mono ?_; rintro e w23 ⟨rfl, b23⟩
  have BE := B.trans (b23.mono B.size)
  go_wp2_with fail
  go_ret
  exact ⟨rfl, BE⟩
end Go.Proofs.YtepmlobgmklniaaDoor
