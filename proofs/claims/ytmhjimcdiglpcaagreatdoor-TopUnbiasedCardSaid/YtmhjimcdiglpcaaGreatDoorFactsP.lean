import Derived.Test.YtmhjimcdiglpcaaGreatDoorRows
import Derived.Test.YtmhjimcdiglpcaaGreatDoorCards
import Derived.Test.YtmhjimcdiglpcaaGreatDoorFrame
import Derived.Test.YtmhjimcdiglpcaaGreatDoorFrame9
/- A closed fact of this program that every row asks. -/
namespace Go.Proofs.YtmhjimcdiglpcaaGreatDoor.facts
open Go
theorem stopsHeard : Tryz.prog.stopsHeard = true := by kernel_rfl
end Go.Proofs.YtmhjimcdiglpcaaGreatDoor.facts
/- A closed fact of this program that every row asks. -/
namespace Go.Proofs.YtmhjimcdiglpcaaGreatDoor.facts
open Go
theorem mayEnter : Tryz.prog.mayEnter = true := by kernel_rfl
end Go.Proofs.YtmhjimcdiglpcaaGreatDoor.facts
/- A closed fact of this program that every row asks. -/
namespace Go.Proofs.YtmhjimcdiglpcaaGreatDoor.facts
open Go
theorem lifted : (Rows.topUnbiasedRow.lifted == Tryz.prog.liftsFinal) = true := by kernel_rfl
end Go.Proofs.YtmhjimcdiglpcaaGreatDoor.facts
/- A closed fact of this program that every row asks. -/
namespace Go.Proofs.YtmhjimcdiglpcaaGreatDoor.facts
open Go
theorem make : (Tryz.prog.make == some Rows.topUnbiasedRow.make) = true := by kernel_rfl
end Go.Proofs.YtmhjimcdiglpcaaGreatDoor.facts
/- A closed fact of this program that every row asks. -/
namespace Go.Proofs.YtmhjimcdiglpcaaGreatDoor.facts
open Go
theorem mainIs : Tryz.prog.mainIs = some (Rows.topUnbiasedCard.stood.harness.1, Rows.topUnbiasedCard.stood.harness.2.toList) := by kernel_rfl
end Go.Proofs.YtmhjimcdiglpcaaGreatDoor.facts
/- Closed facts of this program that every row asks: each once. -/
namespace Go.Proofs.YtmhjimcdiglpcaaGreatDoor.facts
open Go.ChangeShapes Go.WideShapes Go.ChangeAt Go.RowKit
theorem and_mk {a b : Bool} (h : a = true) (k : b = true) : (a && b) = true := by rw [h, k]; rfl
theorem laidOut : laidOutB Tryz.prog = true := by kernel_rfl
theorem rowed : mapsRowed Tryz.prog = true := by kernel_rfl
theorem stops : (Tryz.prog.stops == []) = true := by kernel_rfl
theorem stopKnobs : (Tryz.prog.stopKnobs == []) = true := by kernel_rfl
theorem plainKeys : (Rows.topUnbiasedRow.plainKeys == Tryz.prog.plainKeys) = true := by kernel_rfl
theorem plainKeys_of {b : Bool} (h : b = Rows.topUnbiasedRow.plainKeys) : (b == Tryz.prog.plainKeys) = true := by subst h; exact plainKeys
theorem make_of {m : Make} (h : m = Rows.topUnbiasedRow.make) : (Tryz.prog.make == some m) = true := by subst h; exact make
theorem lifted_of {b : Bool} (h : b = Rows.topUnbiasedRow.lifted) : (b == Tryz.prog.liftsFinal) = true := by subst h; exact lifted
theorem looks : Rows.topUnbiasedCard.stood.looks = Tryz.prog.looks [] := by kernel_rfl

/-- the parameters' types that the laws of this layer have -/
def kindsT : List TypeId := [3, 22]
theorem readableT : ∀ t ∈ kindsT, Tryz.prog.readableRec t = true ∧ t < Tryz.prog.types.size := by
  have h : (kindsT.all fun t => Tryz.prog.readableRec t && decide (t < Tryz.prog.types.size)) = true := by kernel_rfl
  intro t ht
  have := List.all_eq_true.1 h t ht
  simpa using this
theorem standInT : ∀ t ∈ kindsT, Tryz.prog.wantsStandIn t = false := by
  have h : (kindsT.all fun t => !Tryz.prog.wantsStandIn t) = true := by kernel_rfl
  intro t ht
  have := List.all_eq_true.1 h t ht
  simpa using this
theorem readable_ofT {ts : Array TypeId} (h : (ts.toList.all fun t => kindsT.contains t) = true) : ∀ t ∈ ts.toList, Tryz.prog.readableRec t = true ∧ t < Tryz.prog.types.size := fun t ht =>
  readableT t (by have := List.all_eq_true.1 h t ht; simpa using this)
theorem standIn_ofT {ts : Array TypeId} (h : (ts.toList.all fun t => kindsT.contains t) = true) : ∀ (j : Nat) t, ts[j]? = some t → Tryz.prog.wantsStandIn t = false := fun j t ht =>
  standInT t (by have := List.all_eq_true.1 h t (by simpa using Array.mem_of_getElem? ht); simpa using this)
end Go.Proofs.YtmhjimcdiglpcaaGreatDoor.facts
