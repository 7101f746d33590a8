/- NaturalOrders: the walk. -/
import Derived.Test.YtepmlobgmklniaaDoorNum4
namespace Go.Proofs.YtepmlobgmklniaaDoor
open Go.RowKit

theorem cmpn_cases (N M : Nat) : ∃ c d e : Int, cmpn N M = c ∧ cmpn M N = d ∧ cmpn (N + M) N = e ∧ ((c = -1 ∧ d = 1) ∨ (c = 0 ∧ d = 0) ∨ (c = 1 ∧ d = -1)) ∧ (e = 0 ∨ e = 1) := by
  refine ⟨_, _, _, rfl, rfl, rfl, ?_, ?_⟩
  · unfold cmpn
    rcases Nat.lt_trichotomy N M with h | h | h
    · left; constructor <;> (repeat' split) <;> omega
    · subst h; right; left; constructor <;> (repeat' split) <;> omega
    · right; right; constructor <;> (repeat' split) <;> omega
  · unfold cmpn
    by_cases h : M = 0
    · left; (repeat' split) <;> omega
    · right; (repeat' split) <;> omega
theorem cmpn_self (N : Nat) : cmpn N N = 0 := by unfold cmpn; (repeat' split) <;> omega

set_option maxHeartbeats 8000000 in
set_option maxRecDepth 100000 in
theorem NaturalOrders_any (ao bo : Option Addr) (ca cb : Nat) (xs ys : List Nat) (z : Int) (w : World) (ha : Rd w ao ca xs) (hb : Rd w bo cb ys) (_hz : -9223372036854775808 ≤ z) (_hz2 : z ≤ 9223372036854775807) (htab : Tab w) :
    Calls Tryd.prog 4 #[.slice ao xs.length ca, .slice bo ys.length cb, .int .i64 z] w fun e w' => e = .returned (.bool true) ∧ Below w.heap.size w w' := by
  obtain ⟨u_a, e_a⟩ : ∃ u, u = xs.take 12 := ⟨_, rfl⟩
  obtain ⟨n_a, s_a⟩ := Cut_num ha e_a
  obtain ⟨u_b, e_b⟩ : ∃ u, u = ys.take 12 := ⟨_, rfl⟩
  obtain ⟨n_b, s_b⟩ := Cut_num hb e_b
  have hr : Rd w ao ca u_a := by rw [e_a]; exact ha.take 12
  have hul : u_a.length ≤ 12 := by rw [e_a]; simp; omega
  have E_a := Lib.hid e_a
  have E_b := Lib.hid e_b
  clear e_a e_b
  have hown : (w.alloc (.cells #[] 43)).ownsRow w.heap.size 43 1 (.slice (some ⟨w.heap.size, 0, none⟩) 0 0) 0 (lits []) := World.ownsRow_lit (size := 1) w #[] 0 (Nat.le_refl _) (by omega) rfl
  have hb0 : Below w.heap.size w (w.alloc (.cells #[] 43)) := (Below.refl _ _).alloc (Nat.le_refl _) _
  have h2 := hr.alloc (.cells #[] 43)
  obtain ⟨c, d, e, hc, hd, he, hcd, hee⟩ := cmpn_cases (val u_a) (val u_b)
  have HC := Lib.hid hc
  have HD := Lib.hid hd
  have HE := Lib.hid he
  clear hc hd he
  have hlim := hr.lims
  rcases hcd with ⟨rfl, rfl⟩ | ⟨rfl, rfl⟩ | ⟨rfl, rfl⟩ <;> rcases hee with rfl | rfl
  all_goals
    go_enter Tryd.func4, Tryd.ntmps4
    go_wp2_with fail
    refine (Cut_any _ _ _ u_a _ ha E_a.out).mono ?_; rintro e w' ⟨rfl, rfl⟩
    go_wp2_with fail
    refine (Cut_any _ _ _ u_b _ hb E_b.out).mono ?_; rintro e w' ⟨rfl, rfl⟩
    clear ha hb E_a E_b
    go_wp2_with (at_builtin; refine wp_append_rd_row _ rfl _ _ 23 rfl Tryd.underlying23 w.heap.size _ hown (by simp) rfl ao ca u_a _ rfl rfl h2 (by omega) ?_; intro aq cq w1 hq b1)
    go_wp2_with fail
    refine (Fold_any z 5 (by omega) (by omega) _ 5 rfl).mono ?_; rintro e w' ⟨k, rfl, hk, rfl⟩
    have B := hb0.trans b1
    go_wp2_with (at_builtin; refine wp_append_zeros _ rfl _ _ 23 3 .i64 rfl Tryd.underlying23 Tryd.underlying3 w.heap.size _ u_a.length u_a hlim hq B.size rfl .i64 k rfl (by omega) ?_; intro al cl w2 f_l hll b2)
    replace B := B.trans b2
    replace n_a := n_a.below B
    replace n_b := n_b.below B
    have n_l : Num w2 al (u_a.length + k) cl (val u_a) := ⟨_, hll.symm, f_l.rd, val_zeros _ _, by omega⟩
    clear hq b1 b2 h2 hr
    go_wp2_with fail
    refine (Compare_num n_a n_b).mono ?_; rintro e w' ⟨rfl, rfl⟩
    rw [HC.out]
    go_wp2_with fail
    refine (rCompare_num n_a n_b).mono ?_; rintro e w3 ⟨rfl, b3⟩
    rw [HC.out]
    replace n_a := n_a.below b3
    replace n_b := n_b.below b3
    replace n_l := n_l.below b3
    replace B := B.trans (b3.mono B.size)
    go_wp2_with fail
    refine (Compare_num n_b n_a).mono ?_; rintro e w' ⟨rfl, rfl⟩
    rw [HD.out]
    go_wp2_with fail
    refine (Compare_num n_l n_a).mono ?_; rintro e w' ⟨rfl, rfl⟩
    rw [cmpn_self]
    go_wp2_with fail
    refine (Compare_num n_l n_b).mono ?_; rintro e w' ⟨rfl, rfl⟩
    rw [HC.out]
    go_wp2_with fail
    refine (Add_num n_a n_b).mono ?_; rintro e w4 ⟨a_s, c_s, rfl, f_s, b4⟩
    replace n_a := n_a.below b4
    replace B := B.trans (b4.mono B.size)
    have n_s := Num.of_fr f_s (s_a.add s_b (by omega))
    go_wp2_with fail
    refine (Compare_num n_s n_a).mono ?_; rintro e w' ⟨rfl, rfl⟩
    rw [HE.out]
    go_wp2_with fail
    refine (awake_any _ (htab.below B)).mono ?_; rintro e w5 ⟨rfl, b5⟩
    have BE := B.trans (b5.mono B.size)
    go_wp2_with fail
    go_ret
    exact ⟨rfl, BE⟩
end Go.Proofs.YtepmlobgmklniaaDoor
