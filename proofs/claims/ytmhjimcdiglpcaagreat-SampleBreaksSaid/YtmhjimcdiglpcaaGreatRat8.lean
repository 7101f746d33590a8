import Derived.Test.YtmhjimcdiglpcaaGreatRats2
import Derived.Test.YtmhjimcdiglpcaaGreatPows1
/- Contracts of package rational: numbers made of integers; a number scaled to a unit. -/
namespace Go.Proofs.YtmhjimcdiglpcaaGreat
open Go.RowKit

theorem mag_neg {n : Int} (h0 : -9223372036854775808 ≤ n) (h1 : n < 0) : IntKind.u64.wrap (IntKind.i64.wrap (-n)) = ((n.natAbs : Nat) : Int) ∧ n.natAbs < 18446744073709551616 := by
  rw [IntKind.wrap_u64, IntKind.wrap_i64]; omega
set_option maxHeartbeats 1000000 in
set_option maxRecDepth 100000 in
theorem magnitude_num (n : Int) (h0 : -9223372036854775808 ≤ n) (h1 : n ≤ 9223372036854775807) (w : World) :
    Calls Tryz.prog 56 #[.int .i64 n] w (Makes n.natAbs w) := by
  by_cases hn : n < 0
  · obtain ⟨e1, e2⟩ := mag_neg h0 hn
    obtain ⟨v, hv⟩ : ∃ v, v = IntKind.i64.wrap (-n) := ⟨_, rfl⟩
    rw [← hv] at e1
    have hv2 := hv.symm
    obtain ⟨a, ha⟩ : ∃ a, a = n.natAbs := ⟨_, rfl⟩
    rw [← ha] at e1 e2 ⊢
    have hab : (a : Int) ≤ 18446744073709551615 := by omega
    clear hv ha
    go_enter Tryz.func56, Tryz.ntmps56
    go_wp2_with fail
    refine (FromUint_any (a : Int) (by omega) hab _).mono ?_; rintro e w1 ⟨a1, c1, rfl, f1, b1⟩
    rw [Int.toNat_natCast] at f1 ⊢
    go_wp2_with fail
    go_ret
    exact ⟨a1, c1, rfl, f1, b1⟩
  · obtain ⟨a, rfl⟩ : ∃ a : Nat, n = (a : Int) := ⟨n.toNat, by omega⟩
    have ha : (a : Int).natAbs = a := by omega
    rw [ha]
    clear ha
    go_enter Tryz.func56, Tryz.ntmps56
    go_wp2_with fail
    refine (FromUint_any (a : Int) (by omega) (by omega) _).mono ?_; rintro e w1 ⟨a1, c1, rfl, f1, b1⟩
    rw [Int.toNat_natCast] at f1 ⊢
    go_wp2_with fail
    go_ret
    exact ⟨a1, c1, rfl, f1, b1⟩
theorem sm_abs {n : Int} (h0 : -9223372036854775808 ≤ n) (h1 : n ≤ 9223372036854775807) : Sm n.natAbs 2 := by
  refine ⟨?_, by omega⟩
  have : pw 2 = 18446744073709551616 := by simp [pw]
  omega
/-- the box of a result alone -/
theorem boxR (w : World) : ∃ W1, W1 = w.alloc (.cells #[.bool false, .slice none 0 0, .slice none 0 0] 35) ∧ Below w.heap.size w W1 ∧ Box3 W1 w.heap.size ∧ W1.heap.size = w.heap.size + 1 := by
  refine ⟨_, rfl, below_new w _, ⟨_, _, _, heap_alloc_new w _⟩, World.size_alloc _ _⟩
/-- what a function that makes a number, without an error, gives -/
def MakesE (q : Rat) (k : Nat) (w : World) (e : Ending) (w' : World) : Prop := ∃ s ao n ca bo m cb, e = .returned (.tuple #[.agg #[.bool s, .slice ao n ca, .slice bo m cb], .int .i64 0]) ∧ CQ w.heap.size w' s ao n ca bo m cb q k ∧ Below w.heap.size w w'
theorem MakesE.of {q : Rat} {k : Nat} {w w' : World} {s : Bool} {ao : Option Addr} {n ca : Nat} {bo : Option Addr} {m cb : Nat} (h : MakesQ q k w (.returned (.agg #[.bool s, .slice ao n ca, .slice bo m cb])) w') : MakesE q k w (.returned (.tuple #[.agg #[.bool s, .slice ao n ca, .slice bo m cb], .int .i64 0])) w' := by
  obtain ⟨s', ao', n', ca', bo', m', cb', he, h1, h2⟩ := h
  cases he
  exact ⟨_, _, _, _, _, _, _, rfl, h1, h2⟩

set_option maxHeartbeats 2000000 in
set_option maxRecDepth 100000 in
theorem Fraction_q (n d : Int) (hn0 : -9223372036854775808 ≤ n) (hn1 : n ≤ 9223372036854775807) (hd0 : -9223372036854775808 ≤ d) (hd1 : d ≤ 9223372036854775807) (hd : d ≠ 0) (w : World) :
    Calls Tryz.prog 69 #[.int .i64 n, .int .i64 d] w (MakesE (rq (decide (n < 0) != decide (d < 0)) n.natAbs d.natAbs) 2 w) := by
  obtain ⟨W1, hW1, B0, X0, hs1⟩ := boxR w
  have hdz : (d == 0) = false := beq_eq_false_iff_ne.2 hd
  have s1 := sm_abs hn0 hn1
  have s2 := sm_abs hd0 hd1
  have hp : 0 < d.natAbs := by omega
  have HS := Lib.hid hs1
  obtain ⟨A, hA⟩ : ∃ A, A = n.natAbs := ⟨_, rfl⟩
  obtain ⟨D, hD⟩ : ∃ D, D = d.natAbs := ⟨_, rfl⟩
  have MA : Hid (∀ w, Calls Tryz.prog 56 #[.int .i64 n] w (Makes A w)) := fun w => by rw [hA]; exact magnitude_num n hn0 hn1 w
  have MD : Hid (∀ w, Calls Tryz.prog 56 #[.int .i64 d] w (Makes D w)) := fun w => by rw [hD]; exact magnitude_num d hd0 hd1 w
  rw [← hA] at s1 ⊢
  rw [← hD] at s2 hp ⊢
  obtain ⟨sg0, hsg⟩ : ∃ sg0, sg0 = (decide (n < 0) != decide (d < 0)) := ⟨_, rfl⟩
  rw [← hsg]
  have HG := Lib.hid (show (!(decide (n < 0) == decide (d < 0))) = sg0 by rw [hsg]; rfl)
  clear hA hD hd hs1 hsg
  go_enter Tryz.func69, Tryz.ntmps69
  go_wp2_with fail
  rw [← hW1]
  clear hW1
  refine (MA.out _).mono ?_; rintro e W2 ⟨a1, c1, rfl, f1, b1⟩
  go_wp2_with fail
  refine (MD.out _).mono ?_; rintro e W3 ⟨a2, c2, rfl, f2, b2⟩
  replace f1 := f1.below b2
  have X3 := (X0.below b1).below b2
  have B3 := (B0.trans (b1.mono B0.size)).trans (b2.mono (B0.trans (b1.mono B0.size)).size)
  go_wp2_with fail
  rw [HG.out]
  refine (reduced_any sg0 a1 a2 _ c1 _ c2 A D 2 _ (Num.of_fr f1 s1) (Num.of_fr f2 s2) hp s1 s2).mono ?_
  rintro e W9 ⟨s9, a9, n9, c9, o9, m9, d9, rfl, hcq, b9⟩
  have X9 := X3.below b9
  obtain ⟨u0, u1, u2, q0, q1, q2, z0, z1, z2⟩ := X9.facts
  go_wp2_with fail
  refine bodyPost_ret (v := .tuple #[.agg #[.bool s9, .slice a9 n9 c9, .slice o9 m9 d9], .int .i64 0]) (by simp [results, Tryz.results69, go_sem, q0, q1, q2]) rfl ?_
  exact MakesE.of (MakesQ.lift hcq rfl X3.lt (Nat.le_refl _) (B3.trans (b9.mono B3.size)) _ _ _)

theorem q_why_zero {N j : Nat} (h : Sm N 2) (hj : j ≤ 60) : powWhy N (j : Int) = 0 := by
  have hb : bl N ≤ 64 := bits_of h
  unfold powWhy
  rw [if_neg (by omega), Int.toNat_natCast]
  by_cases h1 : (j : Int) = 0 ∨ bl N ≤ 1
  · rw [if_pos h1]
  · rw [if_neg h1]
    have hj0 : 0 < j := by omega
    refine if_neg ?_
    intro h2
    have a1 : 131071 / 60 ≤ 131071 / j := Nat.div_le_div_left hj hj0
    have a2 : N ^ j ≤ (2 ^ bl N) ^ j := Nat.pow_le_pow_left (Nat.le_of_lt (bl_self N)) j
    rw [← Nat.pow_mul] at a2
    have a3 : bl N * j ≤ 64 * 60 := Nat.mul_le_mul hb hj
    obtain ⟨E, hE⟩ : ∃ E : Nat, E = 131072 := ⟨_, rfl⟩
    have a4 : N ^ j < 2 ^ E := Nat.lt_of_le_of_lt a2 (Nat.pow_lt_pow_right (by omega) (by omega))
    have a5 := bl_le.2 a4
    omega
theorem q_res_pow {N j : Nat} (h : Sm N 2) (hj : j ≤ 60) : powRes N (j : Int) = N ^ j := by
  unfold powRes; rw [if_pos (q_why_zero h hj), Int.toNat_natCast]
theorem q_pow_sm60 {N j : Nat} (h : Sm N 2) (hj : j ≤ 60) : Sm (N ^ j) 200 := by
  have hb : bl N ≤ 64 := bits_of h
  have a2 : N ^ j ≤ (2 ^ bl N) ^ j := Nat.pow_le_pow_left (Nat.le_of_lt (bl_self N)) j
  rw [← Nat.pow_mul] at a2
  have a3 : bl N * j ≤ 64 * 60 := Nat.mul_le_mul hb hj
  refine ⟨?_, by omega⟩
  rw [pw_two]
  obtain ⟨E, hE⟩ : ∃ E : Nat, E = 32 * 200 := ⟨_, rfl⟩
  rw [← hE]
  exact Nat.lt_of_le_of_lt a2 (Nat.pow_lt_pow_right (by omega) (by omega))


theorem ten_sm {j : Nat} (hj : j ≤ 60) : Sm (10 ^ j) 200 := q_pow_sm60 ⟨by simp [pw], by omega⟩ hj

/-- the units depend on the number alone -/
theorem ru_scale {a b g T : Nat} (hg : 0 < g) : ru (a * g) (b * g) T = ru a b T := by
  unfold ru
  have e1 : a * g * T * 2 + b * g = g * (a * T * 2 + b) := by grind
  have e2 : b * g * 2 = g * (b * 2) := by grind
  rw [e1, e2, Nat.mul_div_mul_left _ _ hg]
theorem ru_rat {s : Bool} {N D T : Nat} (hD : 0 < D) : ru N D T = ru (rn (rq s N D)) (rq s N D).den T := by
  have hg : 0 < Nat.gcd N D := Nat.gcd_pos_of_pos_right _ hD
  rw [rn_rq hD, rd_rq hD]
  have h := @ru_scale (N / Nat.gcd N D) (D / Nat.gcd N D) (Nat.gcd N D) T hg
  rw [Nat.div_mul_cancel (Nat.gcd_dvd_left _ _), Nat.div_mul_cancel (Nat.gcd_dvd_right _ _)] at h
  exact h
theorem ru_le {N D T : Nat} : ru N D T ≤ N * T * 2 + D := Nat.div_le_self _ _

end Go.Proofs.YtmhjimcdiglpcaaGreat
