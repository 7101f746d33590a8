/- Zeros appended to a copy of a number, and numbers compared. -/
import Derived.Test.YtlgcflapgdkghabDoorNum2
import Derived.Test.YtlgcflapgdkghabDoorAppZ
namespace Go.Proofs.YtlgcflapgdkghabDoor
open Go.RowKit

/-- append of a slice of limbs onto an empty one of the call's own: the row -/
theorem wp_append_rd_row (w : World) {ops : Array Oper} {rest : List Oper} {o : Oper} {a : Act} {Q : Exit → Act → World → Prop} (hg : o.guard = none) (s x : Operand) (t : TypeId)
    (ho : o.op = .call { callee := .builtin .append, args := #[s, x], argTypes := #[t, t] }) (ht : Tryd.prog.underlying t = some (.slice 31)) (B : Nat) (v : Value) (hown : w.ownsRow B 31 1 v 0 (lits [])) (hB : B ≤ w.heap.size)
    (hs : a.eval s = v) (ao : Option Addr) (cap : Nat) (xs : List Nat) (m : Nat) (hx : a.eval x = .slice ao m cap) (hm : xs.length = m) (hr : Rd w ao cap xs) (hb : xs.length ≤ 1099511627776)
    (h : ∀ ao' cap' w', w'.ownsRow B 31 1 (.slice ao' m cap') m (lits xs) → Below B w w' → wpList Tryd.prog ops Q rest (a.put o.dst (.slice ao' m cap')) w') : wpList Tryd.prog ops Q (o :: rest) a w := by
  obtain ⟨i0, hi, hz0, hz1, hz2⟩ := info_parts infoU32
  subst hm
  cases ao with
  | none =>
    obtain ⟨rfl, rfl⟩ := hr.none_nil
    refine wpList_append_own_none hg s x t ho B 31 i0 1 ht hi v 0 [] hs hown hx ?_
    obtain ⟨ao', cap', rfl, hf, _⟩ := Fr.of_row hown lims_nil
    exact h ao' cap' w hown (Below.refl _ _)
  | some ad =>
    refine wpList_append_own w hg s x t ho B 31 i0 (.int .u32 0) 1 4 ht hi hz0 hz1 hz2 rfl (by omega) v 0 [] hs hown ad xs.length cap (lits xs) hx (by simp [lits_length]) ?_ ?_ (by unfold maxLen; omega) (by omega) hB ?_
    · intro j u hj
      rw [lits_get] at hj
      by_cases hl : j < xs.length
      · rw [if_pos hl] at hj
        cases hj
        obtain ⟨b, o', e, hc⟩ := hr.at (by omega)
        cases e
        rw [Addr.add_lit]
        exact hc j hl
      · rw [if_neg hl] at hj; cases hj
    · intro u hu
      obtain ⟨_, _, rfl⟩ := List.mem_map.1 hu
      rfl
    · intro v' w' h1 h2 _
      simp only [Nat.zero_add, List.nil_append] at h1
      obtain ⟨ao', cap', rfl, hf, _⟩ := Fr.of_row h1 hr.lims
      exact h ao' cap' w' h1 ((Below.refl _ _).grown h2 hB (fun k hk => (hown.lt k hk).1))

theorem lims_zeros {xs : List Nat} (h : Lims xs) (k : Nat) : Lims (xs ++ List.replicate k 0) := lims_append h (lims_replicate k)
theorem val_zeros (xs : List Nat) (k : Nat) : val (xs ++ List.replicate k 0) = val xs := by
  rw [val_append, val_replicate]; simp
theorem lits_zeros (xs : List Nat) (k : Nat) : lits xs ++ List.replicate k (.int .u32 0) = lits (xs ++ List.replicate k 0) := by
  simp [lits]

/-- k zeros appended to a row of the call's own -/
theorem wp_append_zeros (w : World) {ops : Array Oper} {rest : List Oper} {o : Oper} {a : Act} {Q : Exit → Act → World → Prop} (hg : o.guard = none) (s x : Operand) (t tn : TypeId) (kn : IntKind)
    (ho : o.op = .call { callee := .builtin .append, args := #[s, x], argTypes := #[t, tn] }) (ht : Tryd.prog.underlying t = some (.slice 31)) (htn : Tryd.prog.underlying tn = some (.int kn)) (B : Nat) (v : Value) (n : Nat) (xs : List Nat) (hl : Lims xs) (hown : w.ownsRow B 31 1 v n (lits xs)) (hB : B ≤ w.heap.size)
    (hs : a.eval s = v) (kq : IntKind) (k : Nat) (hx : a.eval x = .int kq k) (hk : n + k ≤ 1000000)
    (h : ∀ ao' cap' w', Fr B w' ao' cap' (xs ++ List.replicate k 0) → (xs ++ List.replicate k 0).length = n + k → Below B w w' → wpList Tryd.prog ops Q rest (a.put o.dst (.slice ao' (n + k) cap')) w') : wpList Tryd.prog ops Q (o :: rest) a w := by
  obtain ⟨i0, hi, hz0, hz1, hz2⟩ := info_parts infoU32
  obtain ⟨v', w', hr, h1, h2⟩ := run_append_own_zeros (P := Tryd.prog) w B t tn o.type 31 i0 (.int .u32 0) (.int .u32 0) kq kn ht htn hi hz0 hz1 hz2 rfl rfl v n (lits xs) hown k hk hB
  rw [lits_zeros] at h1
  obtain ⟨ao', cap', rfl, hf, hn⟩ := Fr.of_row h1 (lims_zeros hl k)
  exact Lib.wpList_append_run w hg s x t tn ho v (.int kq k) hs hx _ w' hr (h ao' cap' w' hf hn ((Below.refl _ _).grown h2 hB (fun j hj => (hown.lt j hj).1)))
end Go.Proofs.YtlgcflapgdkghabDoor
