/- NaturalSums: the walk. -/
import Derived.Test.YtepmlobgmklniaaDoorNum2
namespace Go.Proofs.YtepmlobgmklniaaDoor
open Go.RowKit

set_option maxHeartbeats 8000000 in
set_option maxRecDepth 100000 in
theorem NaturalSums_any (ao bo : Option Addr) (ca cb : Nat) (xs ys : List Nat) (w : World) (ha : Rd w ao ca xs) (hb : Rd w bo cb ys) (htab : Tab w) :
    Calls Tryd.prog 5 #[.slice ao xs.length ca, .slice bo ys.length cb] w fun e w' => e = .returned (.bool true) ∧ Below w.heap.size w w' := by
  obtain ⟨u_a, e_a⟩ : ∃ u, u = xs.take 12 := ⟨_, rfl⟩
  obtain ⟨n_a, s_a⟩ := Cut_num ha e_a
  obtain ⟨u_b, e_b⟩ : ∃ u, u = ys.take 12 := ⟨_, rfl⟩
  obtain ⟨n_b, s_b⟩ := Cut_num hb e_b
  have E_a := Lib.hid e_a
  have E_b := Lib.hid e_b
  clear e_a e_b
  go_enter Tryd.func5, Tryd.ntmps5
  go_wp2_with fail
  refine (Cut_any _ _ _ u_a _ ha E_a.out).mono ?_; rintro e w' ⟨rfl, rfl⟩
  go_wp2_with fail
  refine (Cut_any _ _ _ u_b _ hb E_b.out).mono ?_; rintro e w' ⟨rfl, rfl⟩
  clear ha hb E_a E_b
  by_cases hle : val u_b ≤ val u_a
  · go_wp2_with fail
    refine (Add_num n_a n_b).mono ?_; rintro e w1 ⟨a_s, c_s, rfl, f_s, b1⟩
    replace n_a := n_a.below b1
    replace n_b := n_b.below b1
    have B := b1
    have s_s := s_a.add s_b (by omega)
    have n_s := Num.of_fr f_s s_s
    go_wp2_with fail
    refine (Sub_num n_a n_b hle).mono ?_; rintro e w2 ⟨a_d, c_d, rfl, f_d, b2⟩
    replace n_a := n_a.below b2
    replace n_b := n_b.below b2
    replace n_s := n_s.below b2
    replace f_s := f_s.below b2
    replace B := B.trans (b2.mono B.size)
    have s_d := Sm.of_le (M := val u_a - val u_b) s_a (Nat.sub_le _ _)
    have n_d := Num.of_fr f_d s_d
    go_wp2_with fail
    refine (rSub_num n_a n_b hle).mono ?_; rintro e w3 ⟨a_e, c_e, rfl, f_e, b3⟩
    replace n_a := n_a.below b3
    replace n_b := n_b.below b3
    replace n_s := n_s.below b3
    replace f_s := f_s.below b3
    replace n_d := n_d.below b3
    replace f_d := f_d.below b3
    replace B := B.trans (b3.mono B.size)
    have s_e := Sm.of_le (M := val u_a - val u_b) s_a (Nat.sub_le _ _)
    have n_e := Num.of_fr f_e s_e
    go_wp2_with fail
    refine (Sub_numD n_s n_b (Nat.le_add_left _ _) (Nat.add_sub_cancel _ _)).mono ?_; rintro e w4 ⟨a_k, c_k, rfl, f_k, b4⟩
    replace n_a := n_a.below b4
    replace n_b := n_b.below b4
    replace n_s := n_s.below b4
    replace f_s := f_s.below b4
    replace n_d := n_d.below b4
    replace f_d := f_d.below b4
    replace n_e := n_e.below b4
    replace f_e := f_e.below b4
    replace B := B.trans (b4.mono B.size)
    have s_k := s_a
    have n_k := Num.of_fr f_k s_k
    go_wp2_with fail
    refine (rAdd_num n_a n_b).mono ?_; rintro e w5 ⟨a_r, c_r, rfl, f_r, b5⟩
    replace n_a := n_a.below b5
    replace n_b := n_b.below b5
    replace n_s := n_s.below b5
    replace f_s := f_s.below b5
    replace n_d := n_d.below b5
    replace f_d := f_d.below b5
    replace n_e := n_e.below b5
    replace f_e := f_e.below b5
    replace n_k := n_k.below b5
    replace f_k := f_k.below b5
    replace B := B.trans (b5.mono B.size)
    have s_r := s_a.add s_b (by omega)
    have n_r := Num.of_fr f_r s_r
    go_wp2_with fail
    refine (Same_num f_s f_r (rfl)).mono ?_; rintro e w6 ⟨rfl, b6⟩
    replace n_a := n_a.below b6
    replace n_b := n_b.below b6
    replace n_s := n_s.below b6
    replace f_s := f_s.below b6
    replace n_d := n_d.below b6
    replace f_d := f_d.below b6
    replace n_e := n_e.below b6
    replace f_e := f_e.below b6
    replace n_k := n_k.below b6
    replace f_k := f_k.below b6
    replace n_r := n_r.below b6
    replace f_r := f_r.below b6
    replace B := B.trans (b6.mono B.size)
    go_wp2_with fail
    refine (Same_num f_d f_e (rfl)).mono ?_; rintro e w7 ⟨rfl, b7⟩
    replace n_a := n_a.below b7
    replace n_b := n_b.below b7
    replace n_s := n_s.below b7
    replace f_s := f_s.below b7
    replace n_d := n_d.below b7
    replace f_d := f_d.below b7
    replace n_e := n_e.below b7
    replace f_e := f_e.below b7
    replace n_k := n_k.below b7
    replace f_k := f_k.below b7
    replace n_r := n_r.below b7
    replace f_r := f_r.below b7
    replace B := B.trans (b7.mono B.size)
    go_wp2_with fail
    refine (rTrim_num n_a).mono ?_; rintro e w8 ⟨a_t, c_t, rfl, f_t, b8⟩
    replace n_a := n_a.below b8
    replace n_b := n_b.below b8
    replace n_s := n_s.below b8
    replace f_s := f_s.below b8
    replace n_d := n_d.below b8
    replace f_d := f_d.below b8
    replace n_e := n_e.below b8
    replace f_e := f_e.below b8
    replace n_k := n_k.below b8
    replace f_k := f_k.below b8
    replace n_r := n_r.below b8
    replace f_r := f_r.below b8
    replace B := B.trans (b8.mono B.size)
    have s_t := s_a
    have n_t := Num.of_fr f_t s_t
    go_wp2_with fail
    refine (Same_num f_k f_t (rfl)).mono ?_; rintro e w9 ⟨rfl, b9⟩
    replace n_a := n_a.below b9
    replace n_b := n_b.below b9
    replace n_s := n_s.below b9
    replace f_s := f_s.below b9
    replace n_d := n_d.below b9
    replace f_d := f_d.below b9
    replace n_e := n_e.below b9
    replace f_e := f_e.below b9
    replace n_k := n_k.below b9
    replace f_k := f_k.below b9
    replace n_r := n_r.below b9
    replace f_r := f_r.below b9
    replace n_t := n_t.below b9
    replace f_t := f_t.below b9
    replace B := B.trans (b9.mono B.size)
    go_wp2_with fail
    refine (awake_any _ (htab.below B)).mono ?_; rintro e w10 ⟨rfl, b10⟩
    have BE := B.trans (b10.mono B.size)
    go_wp2_with fail
    go_ret
    exact ⟨rfl, BE⟩
  · go_wp2_with fail
    refine (Add_num n_a n_b).mono ?_; rintro e w1 ⟨a_s, c_s, rfl, f_s, b1⟩
    replace n_a := n_a.below b1
    replace n_b := n_b.below b1
    have B := b1
    have s_s := s_a.add s_b (by omega)
    have n_s := Num.of_fr f_s s_s
    go_wp2_with fail
    refine (Sub_less_num n_a n_b (by omega)).mono ?_; rintro e w' ⟨rfl, rfl⟩
    go_wp2_with fail
    refine (rSub_less_num n_a n_b (by omega)).mono ?_; rintro e w2 ⟨rfl, b2⟩
    replace n_a := n_a.below b2
    replace n_b := n_b.below b2
    replace n_s := n_s.below b2
    replace f_s := f_s.below b2
    replace B := B.trans (b2.mono B.size)
    go_wp2_with fail
    refine (Sub_numD n_s n_b (Nat.le_add_left _ _) (Nat.add_sub_cancel _ _)).mono ?_; rintro e w3 ⟨a_k, c_k, rfl, f_k, b3⟩
    replace n_a := n_a.below b3
    replace n_b := n_b.below b3
    replace n_s := n_s.below b3
    replace f_s := f_s.below b3
    replace B := B.trans (b3.mono B.size)
    have s_k := s_a
    have n_k := Num.of_fr f_k s_k
    go_wp2_with fail
    refine (rAdd_num n_a n_b).mono ?_; rintro e w4 ⟨a_r, c_r, rfl, f_r, b4⟩
    replace n_a := n_a.below b4
    replace n_b := n_b.below b4
    replace n_s := n_s.below b4
    replace f_s := f_s.below b4
    replace n_k := n_k.below b4
    replace f_k := f_k.below b4
    replace B := B.trans (b4.mono B.size)
    have s_r := s_a.add s_b (by omega)
    have n_r := Num.of_fr f_r s_r
    go_wp2_with fail
    refine (Same_num f_s f_r (rfl)).mono ?_; rintro e w5 ⟨rfl, b5⟩
    replace n_a := n_a.below b5
    replace n_b := n_b.below b5
    replace n_s := n_s.below b5
    replace f_s := f_s.below b5
    replace n_k := n_k.below b5
    replace f_k := f_k.below b5
    replace n_r := n_r.below b5
    replace f_r := f_r.below b5
    replace B := B.trans (b5.mono B.size)
    go_wp2_with fail
    refine (Same_nil _).mono ?_; rintro e w6 ⟨rfl, b6⟩
    replace n_a := n_a.below b6
    replace n_b := n_b.below b6
    replace n_s := n_s.below b6
    replace f_s := f_s.below b6
    replace n_k := n_k.below b6
    replace f_k := f_k.below b6
    replace n_r := n_r.below b6
    replace f_r := f_r.below b6
    replace B := B.trans (b6.mono B.size)
    go_wp2_with fail
    refine (rTrim_num n_a).mono ?_; rintro e w7 ⟨a_t, c_t, rfl, f_t, b7⟩
    replace n_a := n_a.below b7
    replace n_b := n_b.below b7
    replace n_s := n_s.below b7
    replace f_s := f_s.below b7
    replace n_k := n_k.below b7
    replace f_k := f_k.below b7
    replace n_r := n_r.below b7
    replace f_r := f_r.below b7
    replace B := B.trans (b7.mono B.size)
    have s_t := s_a
    have n_t := Num.of_fr f_t s_t
    go_wp2_with fail
    refine (Same_num f_k f_t (rfl)).mono ?_; rintro e w8 ⟨rfl, b8⟩
    replace n_a := n_a.below b8
    replace n_b := n_b.below b8
    replace n_s := n_s.below b8
    replace f_s := f_s.below b8
    replace n_k := n_k.below b8
    replace f_k := f_k.below b8
    replace n_r := n_r.below b8
    replace f_r := f_r.below b8
    replace n_t := n_t.below b8
    replace f_t := f_t.below b8
    replace B := B.trans (b8.mono B.size)
    go_wp2_with fail
    refine (awake_any _ (htab.below B)).mono ?_; rintro e w9 ⟨rfl, b9⟩
    have BE := B.trans (b9.mono B.size)
    go_wp2_with fail
    go_ret
    exact ⟨rfl, BE⟩
end Go.Proofs.YtepmlobgmklniaaDoor
