import Derived.Test.YtmhjimcdiglpcaaGreatAwake2
import Derived.Deep.RegionWith
/- Contracts: numbers cut; quotients and differences of rational numbers. -/
namespace Go.Proofs.YtmhjimcdiglpcaaGreat
open Go.RowKit

theorem cq_zero (B : Nat) (w : World) (k : Nat) (hk : 1 ≤ k) (hk2 : k ≤ 549755813888) : CQ B w false none 0 0 none 0 0 (0 : Rat) k := by
  have h1 : rn (0 : Rat) = 0 := rfl
  have h2 : (0 : Rat).den = 1 := rfl
  refine ⟨rfl, by rw [h1]; rfl, by rw [h2]; rfl, by rw [h1]; exact Fr.nil _ _, by rw [h2]; exact Fr.nil _ _, ?_, ?_⟩
  · rw [h1]; exact ⟨pw_pos _, hk2⟩
  · rw [h2]; refine ⟨?_, hk2⟩; have := pw_mono hk; simp [pw] at this ⊢; omega
theorem sgn_zero_iff {q : Rat} : sgn q = 0 ↔ q = 0 := by
  unfold sgn
  constructor
  · intro h
    by_cases h1 : q.num < 0
    · rw [if_pos h1] at h; omega
    · rw [if_neg h1] at h
      by_cases h2 : q.num = 0
      · exact Rat.num_eq_zero.1 h2
      · rw [if_neg h2] at h; omega
  · intro h; subst h; rfl
theorem sgn_mag (q : Rat) : -1 ≤ sgn q ∧ sgn q ≤ 1 := by
  unfold sgn; split
  · omega
  · split <;> omega
/-- what a quotient with its error gives (by 0: 0, and the error) -/
def QuoRes (p q : Rat) (k : Nat) (w : World) (e : Ending) (w' : World) : Prop := ∃ s ao n ca bo m cb er, e = .returned (.tuple #[.agg #[.bool s, .slice ao n ca, .slice bo m cb], .int .i64 er]) ∧ CQ w.heap.size w' s ao n ca bo m cb (p / q) k ∧ (q = 0 ∧ er = 20 ∨ q ≠ 0 ∧ er = 0) ∧ Below w.heap.size w w'
theorem div_zero_rat (p : Rat) : p / 0 = 0 := by rw [Rat.div_def, Rat.inv_zero, Rat.mul_zero]
end Go.Proofs.YtmhjimcdiglpcaaGreat
