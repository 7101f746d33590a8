import Derived.Test.YtjgofoekocdecaaGreatPow1
/- Contracts of the powers with their errors. -/
namespace Go.Proofs.YtjgofoekocdecaaGreat
open Go.RowKit

/-- what a power with its error gives -/
def PowPost (why : Int) (res : Nat) (w : World) (e : Ending) (w' : World) : Prop :=
  ∃ ao c, e = .returned (.tuple #[.slice ao (dig res).length c, .int .i64 why]) ∧ Fr w.heap.size w' ao c (dig res) ∧ Below w.heap.size w w'
theorem PowPost.err {why : Int} {w : World} : PowPost why 0 w (.returned (.tuple #[.slice none 0 0, .int .i64 why])) w := ⟨none, 0, rfl, Fr.nil _ _, Below.refl _ _⟩
theorem PowPost.made {w w' : World} {ao : Option Addr} {c R : Nat} (f : Fr w.heap.size w' ao c (dig R)) (b : Below w.heap.size w w') : PowPost 0 R w (.returned (.tuple #[.slice ao (dig R).length c, .int .i64 0])) w' := ⟨ao, c, rfl, f, b⟩

theorem Num.smp {w : World} {ao : Option Addr} {n cap N : Nat} (h : Num w ao n cap N) : ∃ k, Sm N k := by
  obtain ⟨xs, h1, h2, rfl, h4⟩ := h
  exact ⟨xs.length, val_lt h2.lims, h4⟩
/-- the ways of a power -/
theorem pow_cases (N : Nat) (k : Int) : (k < 0 ∧ powWhy N k = 10 ∧ powRes N k = 0) ∨ (k = 0 ∧ powWhy N k = 0 ∧ powRes N k = 1) ∨ (∃ j : Nat, k = j ∧ 0 < j ∧ bl N ≤ 1 ∧ powWhy N k = 0 ∧ powRes N k = N ^ j ∧ N ^ j = N) ∨
    (∃ j : Nat, k = j ∧ 0 < j ∧ 2 ≤ bl N ∧ 131071 / j < bl N - 1 ∧ powWhy N k = 11 ∧ powRes N k = 0) ∨ (∃ j : Nat, k = j ∧ 0 < j ∧ 2 ≤ bl N ∧ bl N - 1 ≤ 131071 / j ∧ 131072 < bl (N ^ j) ∧ powWhy N k = 11 ∧ powRes N k = 0) ∨
    (∃ j : Nat, k = j ∧ 0 < j ∧ 2 ≤ bl N ∧ bl N - 1 ≤ 131071 / j ∧ bl (N ^ j) ≤ 131072 ∧ powWhy N k = 0 ∧ powRes N k = N ^ j) := by
  rcases Int.lt_or_le k 0 with h | h
  · have e : powWhy N k = 10 := if_pos h
    exact .inl ⟨h, e, if_neg (by rw [e]; omega)⟩
  · obtain ⟨j, rfl⟩ := Int.eq_ofNat_of_zero_le h
    rcases Nat.eq_zero_or_pos j with z | z
    · subst z
      have e : powWhy N ((0 : Nat) : Int) = 0 := (if_neg (by omega)).trans (if_pos (.inl rfl))
      exact .inr (.inl ⟨rfl, e, if_pos e⟩)
    · rcases Nat.lt_or_ge (bl N) 2 with b | b
      · have e : powWhy N (j : Int) = 0 := (if_neg (by omega)).trans (if_pos (.inr (by omega)))
        exact .inr (.inr (.inl ⟨j, rfl, z, by omega, e, (if_pos e).trans (by rw [Int.toNat_natCast]), bl_small (by omega) z⟩))
      · have e0 : powWhy N (j : Int) = if 131071 / j < bl N - 1 ∨ 131072 < bl (N ^ j) then 11 else 0 := by
          unfold powWhy
          rw [if_neg (by omega), if_neg (by omega), Int.toNat_natCast]
        rcases Nat.lt_or_ge (131071 / j) (bl N - 1) with q | q
        · have e : powWhy N (j : Int) = 11 := e0.trans (if_pos (.inl q))
          exact .inr (.inr (.inr (.inl ⟨j, rfl, z, b, q, e, if_neg (by rw [e]; omega)⟩)))
        · rcases Nat.lt_or_ge 131072 (bl (N ^ j)) with r | r
          · have e : powWhy N (j : Int) = 11 := e0.trans (if_pos (.inr r))
            exact .inr (.inr (.inr (.inr (.inl ⟨j, rfl, z, b, q, r, e, if_neg (by rw [e]; omega)⟩))))
          · have e : powWhy N (j : Int) = 0 := e0.trans (if_neg (by omega))
            exact .inr (.inr (.inr (.inr (.inr ⟨j, rfl, z, b, q, r, e, (if_pos e).trans (by rw [Int.toNat_natCast])⟩))))

end Go.Proofs.YtjgofoekocdecaaGreat
