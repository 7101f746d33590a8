import Derived.Test.YtkodfmpaeemaiaaDoorFrame6
import Derived.Test.YtkodfmpaeemaiaaDoorFactA
import Derived.Test.YtkodfmpaeemaiaaDoorFactB
import Derived.Test.YtkodfmpaeemaiaaDoorFactC
import Derived.Test.YtkodfmpaeemaiaaDoorFactD
import Derived.Test.YtkodfmpaeemaiaaDoorFactE
/- Closed facts of this program that every row asks: each once. -/
namespace Go.Proofs.YtkodfmpaeemaiaaDoor.facts
open Go.ChangeShapes Go.WideShapes Go.ChangeAt Go.RowKit
theorem and_mk {a b : Bool} (h : a = true) (k : b = true) : (a && b) = true := by rw [h, k]; rfl
theorem laidOut : laidOutB Tryd.prog = true := by kernel_rfl
theorem rowed : mapsRowed Tryd.prog = true := by kernel_rfl
theorem stops : (Tryd.prog.stops == []) = true := by kernel_rfl
theorem stopKnobs : (Tryd.prog.stopKnobs == []) = true := by kernel_rfl
theorem plainKeys : (Rows.classificationValidRow.plainKeys == Tryd.prog.plainKeys) = true := by kernel_rfl
theorem plainKeys_of {b : Bool} (h : b = Rows.classificationValidRow.plainKeys) : (b == Tryd.prog.plainKeys) = true := by subst h; exact plainKeys
theorem make_of {m : Make} (h : m = Rows.classificationValidRow.make) : (Tryd.prog.make == some m) = true := by subst h; exact make
theorem lifted_of {b : Bool} (h : b = Rows.classificationValidRow.lifted) : (b == Tryd.prog.liftsFinal) = true := by subst h; exact lifted
theorem looks : Rows.classificationValidCard.stood.looks = Tryd.prog.looks [] := by kernel_rfl

/-- the parameters' types that the laws of layer 6 have -/
def kinds6 : List TypeId := [3, 9, 25, 22, 24]
theorem readable6 : ∀ t ∈ kinds6, Tryd.prog.readableRec t = true ∧ t < Tryd.prog.types.size := by
  have h : (kinds6.all fun t => Tryd.prog.readableRec t && decide (t < Tryd.prog.types.size)) = true := by kernel_rfl
  intro t ht
  have := List.all_eq_true.1 h t ht
  simpa using this
theorem standIn6 : ∀ t ∈ kinds6, Tryd.prog.wantsStandIn t = false := by
  have h : (kinds6.all fun t => !Tryd.prog.wantsStandIn t) = true := by kernel_rfl
  intro t ht
  have := List.all_eq_true.1 h t ht
  simpa using this
theorem readable_of6 {ts : Array TypeId} (h : (ts.toList.all fun t => kinds6.contains t) = true) : ∀ t ∈ ts.toList, Tryd.prog.readableRec t = true ∧ t < Tryd.prog.types.size := fun t ht =>
  readable6 t (by have := List.all_eq_true.1 h t ht; simpa using this)
theorem standIn_of6 {ts : Array TypeId} (h : (ts.toList.all fun t => kinds6.contains t) = true) : ∀ (j : Nat) t, ts[j]? = some t → Tryd.prog.wantsStandIn t = false := fun j t ht =>
  standIn6 t (by have := List.all_eq_true.1 h t (by simpa using Array.mem_of_getElem? ht); simpa using this)
end Go.Proofs.YtkodfmpaeemaiaaDoor.facts
