import Derived.Test.YtobiepkhommeaaaGreatDoorQty17
/- A drawn region with one box, where a call's result may be a number with its error (XOne). -/
namespace Go.Proofs.YtobiepkhommeaaaGreatDoor
open Go.RowKit

def IsQE (q : Rat) (k : Nat) (v : Value) (w : World) : Prop := ∃ s ao n ca bo m cb, v = .tuple #[.agg #[.bool s, .slice ao n ca, .slice bo m cb], .int .i64 0] ∧ CQ 0 w s ao n ca bo m cb q k
theorem IsQE.extT {t : TypeId} (ht : t ≠ 35) {q : Rat} {k n : Nat} {v : Value} {w w' : World} (h : IsQE q k v w) (hE : ExtT t n w w') : IsQE q k v w' := by
  obtain ⟨s, ao, n, ca, bo, m, cb, rfl, h⟩ := h
  exact ⟨s, ao, n, ca, bo, m, cb, rfl, h.extT ht hE⟩
inductive Yle where
  | val (v : Value)
  | num (q : Rat) (k : Nat)
  | numE (q : Rat) (k : Nat)
  | box
  | any
def TwoR (t : TypeId) (n : Nat) (l : List Yle) (i : Nat) (v : Value) (w : World) : Prop :=
  match l[i]? with
  | some (.val x) => v = x
  | some (.num q k) => IsQ q k v w
  | some (.numE q k) => IsQE q k v w
  | some .box => IsBoxT t n v w
  | _ => True
theorem TwoR.ext {t : TypeId} (ht : t ≠ 35) {n m : Nat} {l : List Yle} (i : Nat) (v : Value) (w w' : World) (h : TwoR t n l i v w) (hE : ExtT t m w w') : TwoR t n l i v w' := by
  unfold TwoR at h ⊢
  split at h
  · exact h
  · exact IsQ.extT ht h hE
  · exact IsQE.extT ht h hE
  · exact IsBoxT.extT h hE
  · trivial
end Go.Proofs.YtobiepkhommeaaaGreatDoor
