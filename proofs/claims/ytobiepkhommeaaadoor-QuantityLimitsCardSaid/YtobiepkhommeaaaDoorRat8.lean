import Derived.Test.YtobiepkhommeaaaDoorRats2
import Derived.Test.YtobiepkhommeaaaDoorPow2
/- Contracts of package rational: numbers made of integers; a number scaled to a unit. -/
namespace Go.Proofs.YtobiepkhommeaaaDoor
open Go.RowKit

theorem mag_neg {n : Int} (h0 : -9223372036854775808 ≤ n) (h1 : n < 0) : IntKind.u64.wrap (IntKind.i64.wrap (-n)) = ((n.natAbs : Nat) : Int) ∧ n.natAbs < 18446744073709551616 := by
  rw [IntKind.wrap_u64, IntKind.wrap_i64]; omega
set_option maxHeartbeats 1000000 in
set_option maxRecDepth 100000 in
theorem magnitude_num (n : Int) (h0 : -9223372036854775808 ≤ n) (h1 : n ≤ 9223372036854775807) (w : World) :
    Calls Tryd.prog 38 #[.int .i64 n] w (Makes n.natAbs w) := by
  by_cases hn : n < 0
  · obtain ⟨e1, e2⟩ := mag_neg h0 hn
    obtain ⟨v, hv⟩ : ∃ v, v = IntKind.i64.wrap (-n) := ⟨_, rfl⟩
    rw [← hv] at e1
    have hv2 := hv.symm
    obtain ⟨a, ha⟩ : ∃ a, a = n.natAbs := ⟨_, rfl⟩
    rw [← ha] at e1 e2 ⊢
    have hab : (a : Int) ≤ 18446744073709551615 := by omega
    clear hv ha
    go_enter Tryd.func38, Tryd.ntmps38
    go_wp2_with fail
    refine (FromUint_any (a : Int) (by omega) hab _).mono ?_; rintro e w1 ⟨a1, c1, rfl, f1, b1⟩
    rw [Int.toNat_natCast] at f1 ⊢
    go_wp2_with fail
    go_ret
    exact ⟨a1, c1, rfl, f1, b1⟩
  · obtain ⟨a, rfl⟩ : ∃ a : Nat, n = (a : Int) := ⟨n.toNat, by omega⟩
    have ha : (a : Int).natAbs = a := by omega
    rw [ha]
    clear ha
    go_enter Tryd.func38, Tryd.ntmps38
    go_wp2_with fail
    refine (FromUint_any (a : Int) (by omega) (by omega) _).mono ?_; rintro e w1 ⟨a1, c1, rfl, f1, b1⟩
    rw [Int.toNat_natCast] at f1 ⊢
    go_wp2_with fail
    go_ret
    exact ⟨a1, c1, rfl, f1, b1⟩
theorem sm_abs {n : Int} (h0 : -9223372036854775808 ≤ n) (h1 : n ≤ 9223372036854775807) : Sm n.natAbs 2 := by
  refine ⟨?_, by omega⟩
  have : pw 2 = 18446744073709551616 := by simp [pw]
  omega
/-- the box of a result alone -/
theorem boxR (w : World) : ∃ W1, W1 = w.alloc (.cells #[.bool false, .slice none 0 0, .slice none 0 0] 52) ∧ Below w.heap.size w W1 ∧ Box3 W1 w.heap.size ∧ W1.heap.size = w.heap.size + 1 := by
  refine ⟨_, rfl, below_new w _, ⟨_, _, _, heap_alloc_new w _⟩, World.size_alloc _ _⟩
/-- what a function that makes a number, without an error, gives -/
def MakesE (q : Rat) (k : Nat) (w : World) (e : Ending) (w' : World) : Prop := ∃ s ao n ca bo m cb, e = .returned (.tuple #[.agg #[.bool s, .slice ao n ca, .slice bo m cb], .int .i64 0]) ∧ CQ w.heap.size w' s ao n ca bo m cb q k ∧ Below w.heap.size w w'
theorem MakesE.of {q : Rat} {k : Nat} {w w' : World} {s : Bool} {ao : Option Addr} {n ca : Nat} {bo : Option Addr} {m cb : Nat} (h : MakesQ q k w (.returned (.agg #[.bool s, .slice ao n ca, .slice bo m cb])) w') : MakesE q k w (.returned (.tuple #[.agg #[.bool s, .slice ao n ca, .slice bo m cb], .int .i64 0])) w' := by
  obtain ⟨s', ao', n', ca', bo', m', cb', he, h1, h2⟩ := h
  cases he
  exact ⟨_, _, _, _, _, _, _, rfl, h1, h2⟩

theorem q_why_zero {N j : Nat} (h : Sm N 2) (hj : j ≤ 60) : powWhy N (j : Int) = 0 := by
  have hb : bl N ≤ 64 := bits_of h
  unfold powWhy
  rw [if_neg (by omega), Int.toNat_natCast]
  by_cases h1 : (j : Int) = 0 ∨ bl N ≤ 1
  · rw [if_pos h1]
  · rw [if_neg h1]
    have hj0 : 0 < j := by omega
    refine if_neg ?_
    intro h2
    have a1 : 131071 / 60 ≤ 131071 / j := Nat.div_le_div_left hj hj0
    have a2 : N ^ j ≤ (2 ^ bl N) ^ j := Nat.pow_le_pow_left (Nat.le_of_lt (bl_self N)) j
    rw [← Nat.pow_mul] at a2
    have a3 : bl N * j ≤ 64 * 60 := Nat.mul_le_mul hb hj
    obtain ⟨E, hE⟩ : ∃ E : Nat, E = 131072 := ⟨_, rfl⟩
    have a4 : N ^ j < 2 ^ E := Nat.lt_of_le_of_lt a2 (Nat.pow_lt_pow_right (by omega) (by omega))
    have a5 := bl_le.2 a4
    omega
theorem q_res_pow {N j : Nat} (h : Sm N 2) (hj : j ≤ 60) : powRes N (j : Int) = N ^ j := by
  unfold powRes; rw [if_pos (q_why_zero h hj), Int.toNat_natCast]
/-- Power without an error -/
theorem q_Power_fine {ao : Option Addr} {n ca N j : Nat} {w : World} (i : Int) (hi : i = (j : Int)) (ha : Num w ao n ca N) (hs : Sm N 2) (hj : j ≤ 60) : Calls Tryd.prog 46 #[.slice ao n ca, .int .i64 i] w (PowPost 0 (N ^ j) w) := by
  subst hi
  have := Power_num (j : Int) ha (by omega) (by omega)
  rwa [q_why_zero hs hj, q_res_pow hs hj] at this
theorem q_pow_sm60 {N j : Nat} (h : Sm N 2) (hj : j ≤ 60) : Sm (N ^ j) 200 := by
  have hb : bl N ≤ 64 := bits_of h
  have a2 : N ^ j ≤ (2 ^ bl N) ^ j := Nat.pow_le_pow_left (Nat.le_of_lt (bl_self N)) j
  rw [← Nat.pow_mul] at a2
  have a3 : bl N * j ≤ 64 * 60 := Nat.mul_le_mul hb hj
  refine ⟨?_, by omega⟩
  rw [pw_two]
  obtain ⟨E, hE⟩ : ∃ E : Nat, E = 32 * 200 := ⟨_, rfl⟩
  rw [← hE]
  exact Nat.lt_of_le_of_lt a2 (Nat.pow_lt_pow_right (by omega) (by omega))


set_option maxHeartbeats 1000000 in
set_option maxRecDepth 100000 in
theorem tens_num (j : Nat) (hj : j ≤ 60) (i : Int) (hi : i = (j : Int)) (w : World) : Calls Tryd.prog 35 #[.int .i64 i] w (Makes (10 ^ j) w) := by
  subst hi
  have s10 : Sm 10 2 := ⟨by simp [pw], by omega⟩
  go_enter Tryd.func35, Tryd.ntmps35
  go_wp2_with fail
  refine (FromUint_any 10 (by omega) (by omega) _).mono ?_; rintro e w1 ⟨a1, c1, rfl, f1, b1⟩
  have n1 := Num.of_fr f1 (show Sm (10 : Int).toNat 2 from s10)
  have hp := q_Power_fine (j := j) (j : Int) rfl n1 s10 hj
  have HP := Lib.hid hp
  clear hp
  go_wp2_with fail
  refine HP.out.mono ?_; rintro e w2 ⟨a2, c2, rfl, f2, b2⟩
  go_wp2_with fail
  go_ret
  exact ⟨a2, c2, rfl, f2.mono b1.size, b1.trans (b2.mono b1.size)⟩
theorem ten_sm {j : Nat} (hj : j ≤ 60) : Sm (10 ^ j) 200 := q_pow_sm60 ⟨by simp [pw], by omega⟩ hj

/-- the units depend on the number alone -/
theorem ru_scale {a b g T : Nat} (hg : 0 < g) : ru (a * g) (b * g) T = ru a b T := by
  unfold ru
  have e1 : a * g * T * 2 + b * g = g * (a * T * 2 + b) := by grind
  have e2 : b * g * 2 = g * (b * 2) := by grind
  rw [e1, e2, Nat.mul_div_mul_left _ _ hg]
theorem ru_rat {s : Bool} {N D T : Nat} (hD : 0 < D) : ru N D T = ru (rn (rq s N D)) (rq s N D).den T := by
  have hg : 0 < Nat.gcd N D := Nat.gcd_pos_of_pos_right _ hD
  rw [rn_rq hD, rd_rq hD]
  have h := @ru_scale (N / Nat.gcd N D) (D / Nat.gcd N D) (Nat.gcd N D) T hg
  rw [Nat.div_mul_cancel (Nat.gcd_dvd_left _ _), Nat.div_mul_cancel (Nat.gcd_dvd_right _ _)] at h
  exact h
theorem ru_le {N D T : Nat} : ru N D T ≤ N * T * 2 + D := Nat.div_le_self _ _

end Go.Proofs.YtobiepkhommeaaaDoor
