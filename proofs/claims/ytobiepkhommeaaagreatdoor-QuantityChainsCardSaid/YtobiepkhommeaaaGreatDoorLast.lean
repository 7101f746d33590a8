import Derived.Test.YtobiepkhommeaaaGreatDoorPairs
/- A drawn region of reads and calls, whose last operation stores a cell of the last block. -/
namespace Go.Proofs.YtobiepkhommeaaaGreatDoor
open Go.RowKit

def ValR (l : List (Option (Value ⊕ (Rat × Nat)))) (i : Nat) (v : Value) (_ : World) : Prop :=
  match l[i]? with
  | some (some (.inl x)) => v = x
  | _ => True
def LastX (W : World) (g j : Nat) (o : Obj) (D : Nat → Bool) (_ : Nat → Value) (w : World) : Prop := (D j = false → Below W.heap.size W w) ∧ (D j = true → w.heap[g]? = some o)
theorem no_tr {D : Nat → Bool} {j : Nat} (h : ¬ D j = true) : D j = false := by cases e : D j <;> simp_all
end Go.Proofs.YtobiepkhommeaaaGreatDoor
