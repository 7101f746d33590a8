import Derived.Test.YtdcnkebcpaelpaaGreatDoorFrame
import Derived.Test.YtdcnkebcpaelpaaGreatDoorFactsA
/- Closed facts of this program that every row asks: each once. -/
namespace Go.Proofs.YtdcnkebcpaelpaaGreatDoor.facts
open Go.ChangeShapes Go.WideShapes Go.ChangeAt Go.RowKit
theorem and_mk {a b : Bool} (h : a = true) (k : b = true) : (a && b) = true := by rw [h, k]; rfl
theorem laidOut : laidOutB Tryz.prog = true := by kernel_rfl
theorem rowed : mapsRowed Tryz.prog = true := by kernel_rfl
theorem stops : (Tryz.prog.stops == []) = true := by kernel_rfl
theorem stopKnobs : (Tryz.prog.stopKnobs == []) = true := by kernel_rfl
theorem plainKeys : (Rows.rationalApartRow.plainKeys == Tryz.prog.plainKeys) = true := by kernel_rfl
theorem plainKeys_of {b : Bool} (h : b = Rows.rationalApartRow.plainKeys) : (b == Tryz.prog.plainKeys) = true := by subst h; exact plainKeys
theorem make_of {m : Make} (h : m = Rows.rationalApartRow.make) : (Tryz.prog.make == some m) = true := by subst h; exact make
theorem lifted_of {b : Bool} (h : b = Rows.rationalApartRow.lifted) : (b == Tryz.prog.liftsFinal) = true := by subst h; exact lifted
theorem looks : Rows.rationalApartCard.stood.looks = Tryz.prog.looks [] := by kernel_rfl

/-- the parameters' types that the laws of this layer have -/
def kinds : List TypeId := [23, 61, 3, 9]
theorem readable : ∀ t ∈ kinds, Tryz.prog.readableRec t = true ∧ t < Tryz.prog.types.size := by
  have h : (kinds.all fun t => Tryz.prog.readableRec t && decide (t < Tryz.prog.types.size)) = true := by kernel_rfl
  intro t ht
  have := List.all_eq_true.1 h t ht
  simpa using this
theorem standIn : ∀ t ∈ kinds, Tryz.prog.wantsStandIn t = false := by
  have h : (kinds.all fun t => !Tryz.prog.wantsStandIn t) = true := by kernel_rfl
  intro t ht
  have := List.all_eq_true.1 h t ht
  simpa using this
theorem readable_of {ts : Array TypeId} (h : (ts.toList.all fun t => kinds.contains t) = true) : ∀ t ∈ ts.toList, Tryz.prog.readableRec t = true ∧ t < Tryz.prog.types.size := fun t ht =>
  readable t (by have := List.all_eq_true.1 h t ht; simpa using this)
theorem standIn_of {ts : Array TypeId} (h : (ts.toList.all fun t => kinds.contains t) = true) : ∀ (j : Nat) t, ts[j]? = some t → Tryz.prog.wantsStandIn t = false := fun j t ht =>
  standIn t (by have := List.all_eq_true.1 h t (by simpa using Array.mem_of_getElem? ht); simpa using this)
end Go.Proofs.YtdcnkebcpaelpaaGreatDoor.facts
