import Derived.Test.YtdcnkebcpaelpaaGreatDoorPow1
/- Contracts of the powers with their errors. -/
namespace Go.Proofs.YtdcnkebcpaelpaaGreatDoor
open Go.RowKit

/-- what a power with its error gives -/
def PowPost (why : Int) (res : Nat) (w : World) (e : Ending) (w' : World) : Prop :=
  ∃ ao c, e = .returned (.tuple #[.slice ao (dig res).length c, .int .i64 why]) ∧ Fr w.heap.size w' ao c (dig res) ∧ Below w.heap.size w w'
theorem PowPost.err {why : Int} {w : World} : PowPost why 0 w (.returned (.tuple #[.slice none 0 0, .int .i64 why])) w := ⟨none, 0, rfl, Fr.nil _ _, Below.refl _ _⟩
theorem PowPost.made {w w' : World} {ao : Option Addr} {c R : Nat} (f : Fr w.heap.size w' ao c (dig R)) (b : Below w.heap.size w w') : PowPost 0 R w (.returned (.tuple #[.slice ao (dig R).length c, .int .i64 0])) w' := ⟨ao, c, rfl, f, b⟩

theorem Num.smp {w : World} {ao : Option Addr} {n cap N : Nat} (h : Num w ao n cap N) : ∃ k, Sm N k := by
  obtain ⟨xs, h1, h2, rfl, h4⟩ := h
  exact ⟨xs.length, val_lt h2.lims, h4⟩
/-- the ways of a power -/
theorem pow_cases (N : Nat) (k : Int) : (k < 0 ∧ powWhy N k = 10 ∧ powRes N k = 0) ∨ (k = 0 ∧ powWhy N k = 0 ∧ powRes N k = 1) ∨ (∃ j : Nat, k = j ∧ 0 < j ∧ bl N ≤ 1 ∧ powWhy N k = 0 ∧ powRes N k = N ^ j ∧ N ^ j = N) ∨
    (∃ j : Nat, k = j ∧ 0 < j ∧ 2 ≤ bl N ∧ 131071 / j < bl N - 1 ∧ powWhy N k = 11 ∧ powRes N k = 0) ∨ (∃ j : Nat, k = j ∧ 0 < j ∧ 2 ≤ bl N ∧ bl N - 1 ≤ 131071 / j ∧ 131072 < bl (N ^ j) ∧ powWhy N k = 11 ∧ powRes N k = 0) ∨
    (∃ j : Nat, k = j ∧ 0 < j ∧ 2 ≤ bl N ∧ bl N - 1 ≤ 131071 / j ∧ bl (N ^ j) ≤ 131072 ∧ powWhy N k = 0 ∧ powRes N k = N ^ j) := by
  rcases Int.lt_or_le k 0 with h | h
  · have e : powWhy N k = 10 := if_pos h
    exact .inl ⟨h, e, if_neg (by rw [e]; omega)⟩
  · obtain ⟨j, rfl⟩ := Int.eq_ofNat_of_zero_le h
    rcases Nat.eq_zero_or_pos j with z | z
    · subst z
      have e : powWhy N ((0 : Nat) : Int) = 0 := (if_neg (by omega)).trans (if_pos (.inl rfl))
      exact .inr (.inl ⟨rfl, e, if_pos e⟩)
    · rcases Nat.lt_or_ge (bl N) 2 with b | b
      · have e : powWhy N (j : Int) = 0 := (if_neg (by omega)).trans (if_pos (.inr (by omega)))
        exact .inr (.inr (.inl ⟨j, rfl, z, by omega, e, (if_pos e).trans (by rw [Int.toNat_natCast]), bl_small (by omega) z⟩))
      · have e0 : powWhy N (j : Int) = if 131071 / j < bl N - 1 ∨ 131072 < bl (N ^ j) then 11 else 0 := by
          unfold powWhy
          rw [if_neg (by omega), if_neg (by omega), Int.toNat_natCast]
        rcases Nat.lt_or_ge (131071 / j) (bl N - 1) with q | q
        · have e : powWhy N (j : Int) = 11 := e0.trans (if_pos (.inl q))
          exact .inr (.inr (.inr (.inl ⟨j, rfl, z, b, q, e, if_neg (by rw [e]; omega)⟩)))
        · rcases Nat.lt_or_ge 131072 (bl (N ^ j)) with r | r
          · have e : powWhy N (j : Int) = 11 := e0.trans (if_pos (.inr r))
            exact .inr (.inr (.inr (.inr (.inl ⟨j, rfl, z, b, q, r, e, if_neg (by rw [e]; omega)⟩))))
          · have e : powWhy N (j : Int) = 0 := e0.trans (if_neg (by omega))
            exact .inr (.inr (.inr (.inr (.inr ⟨j, rfl, z, b, q, r, e, (if_pos e).trans (by rw [Int.toNat_natCast])⟩))))

set_option maxHeartbeats 2000000 in
set_option maxRecDepth 100000 in
theorem Power_num {ao : Option Addr} {n ca N : Nat} {w : World} (k : Int) (ha : Num w ao n ca N) (h0 : -9223372036854775808 ≤ k) (h1 : k ≤ 9223372036854775807) : Calls Tryz.prog 25 #[.slice ao n ca, .int .i64 k] w (PowPost (powWhy N k) (powRes N k) w) := by
  obtain ⟨b, hb⟩ : ∃ b, bl N = b := ⟨_, rfl⟩
  have HB := Lib.hid hb
  obtain ⟨kk, hsm⟩ := ha.smp
  have hbb : b ≤ 32 * kk := by rw [← hb]; exact bits_of hsm
  have hkk := hsm.2
  rcases pow_cases N k with ⟨c1, e1, e2⟩ | ⟨rfl, e1, e2⟩ | ⟨j, rfl, c1, c2, e1, e2, e3⟩ | ⟨j, rfl, c1, c2, c3, e1, e2⟩ | ⟨j, rfl, c1, c2, c3, c4, e1, e2⟩ | ⟨j, rfl, c1, c2, c3, c4, e1, e2⟩
  all_goals
    rw [e1, e2]
    clear e1 e2
  · clear hb
    go_enter Tryz.func25, Tryz.ntmps25
    go_wp2_with fail
    refine (Bits_num ha).mono ?_; rintro e w' ⟨rfl, rfl⟩
    rw [HB.out]
    go_wp2_with fail
    go_ret2
    exact PowPost.err
  · clear hb
    go_enter Tryz.func25, Tryz.ntmps25
    go_wp2_with fail
    refine (Bits_num ha).mono ?_; rintro e w' ⟨rfl, rfl⟩
    rw [HB.out]
    go_wp2_with fail
    refine (FromUint_any 1 (by omega) (by omega) _).mono ?_; rintro e w1 ⟨a1, c1, rfl, f1, b1⟩
    go_wp2_with fail
    go_ret2
    exact PowPost.made f1 b1
  · rw [hb] at c2
    have hz : ((j : Int) == 0) = false := beq_eq_false_iff_ne.2 (by omega)
    have E3 := Lib.hid e3
    clear hb e3
    go_enter Tryz.func25, Tryz.ntmps25
    go_wp2_with fail
    refine (Bits_num ha).mono ?_; rintro e w' ⟨rfl, rfl⟩
    rw [HB.out]
    go_wp2_with fail
    refine (Trim_num ha).mono ?_; rintro e w1 ⟨a1, c1, rfl, f1, b1⟩
    go_wp2_with fail
    go_ret2
    rw [E3.out]
    exact PowPost.made f1 b1
  · rw [hb] at c2 c3
    have hz : ((j : Int) == 0) = false := beq_eq_false_iff_ne.2 (by omega)
    obtain ⟨Q, hQ⟩ : ∃ Q, Q = 131071 / j := ⟨_, rfl⟩
    have hq : (131071 : Int) / (j : Int) = (Q : Int) := by rw [hQ]; exact (Int.natCast_ediv 131071 j).symm
    rw [← hQ] at c3
    clear hb hQ
    go_enter Tryz.func25, Tryz.ntmps25
    go_wp2_with fail
    refine (Bits_num ha).mono ?_; rintro e w' ⟨rfl, rfl⟩
    rw [HB.out]
    go_wp2_with fail
    go_ret2
    exact PowPost.err
  all_goals
    obtain ⟨hs, hj⟩ := pow_sm c2 c1 c3
    rw [hb] at c2 c3
    have hz : ((j : Int) == 0) = false := beq_eq_false_iff_ne.2 (by omega)
    obtain ⟨Q, hQ⟩ : ∃ Q, Q = 131071 / j := ⟨_, rfl⟩
    have hq : (131071 : Int) / (j : Int) = (Q : Int) := by rw [hQ]; exact (Int.natCast_ediv 131071 j).symm
    rw [← hQ] at c3
    obtain ⟨r, hr⟩ : ∃ r, bl (N ^ j) = r := ⟨_, rfl⟩
    have s_1 : Sm (N ^ j + 1) (8194 + 1) := ⟨by have := hs.1; rw [pw_succ]; omega, by omega⟩
    have s_p : Sm (N ^ j) 8194 := Sm.of_le hs (by omega)
    have hrb : r ≤ 262208 := by rw [← hr]; exact bits_of s_p
    have HR := Lib.hid hr
    rw [hr] at c4
    clear hb hQ hr hs
    go_enter Tryz.func25, Tryz.ntmps25
    go_wp2_with fail
    refine (Bits_num ha).mono ?_; rintro e w' ⟨rfl, rfl⟩
    rw [HB.out]
    go_wp2_with fail
    refine (power_num ha (by omega) s_1).mono ?_; rintro e w1 ⟨a1, c1, rfl, f1, b1⟩
    have n1 := Num.of_fr f1 s_p
    go_wp2_with fail
    refine (Bits_num n1).mono ?_; rintro e w' ⟨rfl, rfl⟩
    rw [HR.out]
    go_wp2_with fail
    go_ret2
    first | exact ⟨none, 0, rfl, Fr.nil _ _, b1⟩ | exact PowPost.made f1 b1
end Go.Proofs.YtdcnkebcpaelpaaGreatDoor
