import Derived.Test.YtobiepkhommeaaaDoorNats
import Derived.Deep.QuietTactic
import Derived.BigQuiet
/- Contracts of the reference's package, layer 1, and of the law's small helpers. -/
namespace Go.Proofs.YtobiepkhommeaaaDoor
open Go.RowKit

/-- append of a slice of limbs onto an empty one of the call's own -/
theorem wp_append_rd0 (w : World) {ops : Array Oper} {rest : List Oper} {o : Oper} {a : Act} {Q : Exit → Act → World → Prop} (hg : o.guard = none) (s x : Operand) (t : TypeId)
    (ho : o.op = .call { callee := .builtin .append, args := #[s, x], argTypes := #[t, t] }) (ht : Tryd.prog.underlying t = some (.slice 77)) (B : Nat) (v : Value) (hown : w.ownsRow B 77 1 v 0 (lits [])) (hB : B ≤ w.heap.size)
    (hs : a.eval s = v) (ao : Option Addr) (cap : Nat) (xs : List Nat) (m : Nat) (hx : a.eval x = .slice ao m cap) (hm : xs.length = m) (hr : Rd w ao cap xs) (hb : xs.length ≤ 1099511627776)
    (h : ∀ ao' cap' w', Fr B w' ao' cap' xs → Below B w w' → wpList Tryd.prog ops Q rest (a.put o.dst (.slice ao' m cap')) w') : wpList Tryd.prog ops Q (o :: rest) a w := by
  obtain ⟨i0, hi, hz0, hz1, hz2⟩ := info_parts infoU32
  subst hm
  cases ao with
  | none =>
    obtain ⟨rfl, rfl⟩ := hr.none_nil
    refine wpList_append_own_none hg s x t ho B 77 i0 1 ht hi v 0 [] hs hown hx ?_
    obtain ⟨ao', cap', rfl, hf, _⟩ := Fr.of_row hown lims_nil
    exact h ao' cap' w hf (Below.refl _ _)
  | some ad =>
    refine wpList_append_own w hg s x t ho B 77 i0 (.int .u32 0) 1 4 ht hi hz0 hz1 hz2 rfl (by omega) v 0 [] hs hown ad xs.length cap (lits xs) hx (by simp [lits_length]) ?_ ?_ (by unfold maxLen; omega) (by omega) hB ?_
    · intro j u hj
      rw [lits_get] at hj
      by_cases hl : j < xs.length
      · rw [if_pos hl] at hj
        cases hj
        obtain ⟨b, o', e, hc⟩ := hr.at (by omega)
        cases e
        rw [Addr.add_lit]
        exact hc j hl
      · rw [if_neg hl] at hj; cases hj
    · intro u hu
      obtain ⟨_, _, rfl⟩ := List.mem_map.1 hu
      rfl
    · intro v' w' h1 h2 _
      simp only [Nat.zero_add, List.nil_append] at h1
      obtain ⟨ao', cap', rfl, hf, _⟩ := Fr.of_row h1 hr.lims
      exact h ao' cap' w' hf ((Below.refl _ _).grown h2 hB (fun k hk => (hown.lt k hk).1))

end Go.Proofs.YtobiepkhommeaaaDoor
