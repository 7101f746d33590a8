import Derived.Test.YtobiepkhommeaaaGreatDoorTwoE
/- A drawn region with one box, where a call's result may be a number with any error (XOne, XTwoE). -/
namespace Go.Proofs.YtobiepkhommeaaaGreatDoor
open Go.RowKit

def IsQF (E : Int) (q : Rat) (k : Nat) (v : Value) (w : World) : Prop := ∃ s ao n ca bo m cb, v = .tuple #[.agg #[.bool s, .slice ao n ca, .slice bo m cb], .int .i64 E] ∧ CQ 0 w s ao n ca bo m cb q k
theorem IsQF.extT {t : TypeId} (ht : t ≠ 35) {E : Int} {q : Rat} {k n : Nat} {v : Value} {w w' : World} (h : IsQF E q k v w) (hE : ExtT t n w w') : IsQF E q k v w' := by
  obtain ⟨s, ao, n, ca, bo, m, cb, rfl, h⟩ := h
  exact ⟨s, ao, n, ca, bo, m, cb, rfl, h.extT ht hE⟩
inductive Ylf where
  | val (v : Value)
  | num (q : Rat) (k : Nat)
  | numE (E : Int) (q : Rat) (k : Nat)
  | box
  | any
def TwoF (t : TypeId) (n : Nat) (l : List Ylf) (i : Nat) (v : Value) (w : World) : Prop :=
  match l[i]? with
  | some (.val x) => v = x
  | some (.num q k) => IsQ q k v w
  | some (.numE E q k) => IsQF E q k v w
  | some .box => IsBoxT t n v w
  | _ => True
theorem TwoF.ext {t : TypeId} (ht : t ≠ 35) {n m : Nat} {l : List Ylf} (i : Nat) (v : Value) (w w' : World) (h : TwoF t n l i v w) (hE : ExtT t m w w') : TwoF t n l i v w' := by
  unfold TwoF at h ⊢
  split at h
  · exact h
  · exact IsQ.extT ht h hE
  · exact IsQF.extT ht h hE
  · exact IsBoxT.extT h hE
  · trivial
end Go.Proofs.YtobiepkhommeaaaGreatDoor
