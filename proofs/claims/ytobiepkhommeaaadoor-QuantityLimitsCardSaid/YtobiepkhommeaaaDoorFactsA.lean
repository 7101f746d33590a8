import Derived.Test.YtobiepkhommeaaaDoorRows
import Derived.Test.YtobiepkhommeaaaDoorCards
import Derived.Test.YtobiepkhommeaaaDoorFrame
/- A closed fact of this program that every row asks. -/
namespace Go.Proofs.YtobiepkhommeaaaDoor.facts
open Go
theorem stopsHeard : Tryd.prog.stopsHeard = true := by kernel_rfl
end Go.Proofs.YtobiepkhommeaaaDoor.facts
/- A closed fact of this program that every row asks. -/
namespace Go.Proofs.YtobiepkhommeaaaDoor.facts
open Go
theorem mayEnter : Tryd.prog.mayEnter = true := by kernel_rfl
end Go.Proofs.YtobiepkhommeaaaDoor.facts
/- A closed fact of this program that every row asks. -/
namespace Go.Proofs.YtobiepkhommeaaaDoor.facts
open Go
theorem lifted : (Rows.quantityValidRow.lifted == Tryd.prog.liftsFinal) = true := by kernel_rfl
end Go.Proofs.YtobiepkhommeaaaDoor.facts
/- A closed fact of this program that every row asks. -/
namespace Go.Proofs.YtobiepkhommeaaaDoor.facts
open Go
theorem make : (Tryd.prog.make == some Rows.quantityValidRow.make) = true := by kernel_rfl
end Go.Proofs.YtobiepkhommeaaaDoor.facts
/- A closed fact of this program that every row asks. -/
namespace Go.Proofs.YtobiepkhommeaaaDoor.facts
open Go
theorem mainIs : Tryd.prog.mainIs = some (Rows.quantityValidCard.stood.harness.1, Rows.quantityValidCard.stood.harness.2.toList) := by kernel_rfl
end Go.Proofs.YtobiepkhommeaaaDoor.facts
/- Closed facts of this program that every row asks: each once. -/
namespace Go.Proofs.YtobiepkhommeaaaDoor.facts
open Go.ChangeShapes Go.WideShapes Go.ChangeAt Go.RowKit
theorem and_mk {a b : Bool} (h : a = true) (k : b = true) : (a && b) = true := by rw [h, k]; rfl
theorem laidOut : laidOutB Tryd.prog = true := by kernel_rfl
theorem rowed : mapsRowed Tryd.prog = true := by kernel_rfl
theorem stops : (Tryd.prog.stops == []) = true := by kernel_rfl
theorem stopKnobs : (Tryd.prog.stopKnobs == []) = true := by kernel_rfl
theorem plainKeys : (Rows.quantityValidRow.plainKeys == Tryd.prog.plainKeys) = true := by kernel_rfl
theorem plainKeys_of {b : Bool} (h : b = Rows.quantityValidRow.plainKeys) : (b == Tryd.prog.plainKeys) = true := by subst h; exact plainKeys
theorem make_of {m : Make} (h : m = Rows.quantityValidRow.make) : (Tryd.prog.make == some m) = true := by subst h; exact make
theorem lifted_of {b : Bool} (h : b = Rows.quantityValidRow.lifted) : (b == Tryd.prog.liftsFinal) = true := by subst h; exact lifted
theorem looks : Rows.quantityValidCard.stood.looks = Tryd.prog.looks [] := by kernel_rfl

/-- the parameters' types that the laws of this layer have -/
def kinds : List TypeId := [44, 35, 3, 9]
theorem readable : ∀ t ∈ kinds, Tryd.prog.readableRec t = true ∧ t < Tryd.prog.types.size := by
  have h : (kinds.all fun t => Tryd.prog.readableRec t && decide (t < Tryd.prog.types.size)) = true := by kernel_rfl
  intro t ht
  have := List.all_eq_true.1 h t ht
  simpa using this
theorem standIn : ∀ t ∈ kinds, Tryd.prog.wantsStandIn t = false := by
  have h : (kinds.all fun t => !Tryd.prog.wantsStandIn t) = true := by kernel_rfl
  intro t ht
  have := List.all_eq_true.1 h t ht
  simpa using this
theorem readable_of {ts : Array TypeId} (h : (ts.toList.all fun t => kinds.contains t) = true) : ∀ t ∈ ts.toList, Tryd.prog.readableRec t = true ∧ t < Tryd.prog.types.size := fun t ht =>
  readable t (by have := List.all_eq_true.1 h t ht; simpa using this)
theorem standIn_of {ts : Array TypeId} (h : (ts.toList.all fun t => kinds.contains t) = true) : ∀ (j : Nat) t, ts[j]? = some t → Tryd.prog.wantsStandIn t = false := fun j t ht =>
  standIn t (by have := List.all_eq_true.1 h t (by simpa using Array.mem_of_getElem? ht); simpa using this)
end Go.Proofs.YtobiepkhommeaaaDoor.facts
