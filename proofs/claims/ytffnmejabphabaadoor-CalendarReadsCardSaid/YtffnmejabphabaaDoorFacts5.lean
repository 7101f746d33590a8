import Derived.Test.YtffnmejabphabaaDoorFrame5
import Derived.Test.YtffnmejabphabaaDoorFactA
import Derived.Test.YtffnmejabphabaaDoorFactB
import Derived.Test.YtffnmejabphabaaDoorFactC
import Derived.Test.YtffnmejabphabaaDoorFactD
import Derived.Test.YtffnmejabphabaaDoorFactE
/- Closed facts of this program that every row asks: each once. -/
namespace Go.Proofs.YtffnmejabphabaaDoor.facts
open Go.ChangeShapes Go.WideShapes Go.ChangeAt Go.RowKit
theorem and_mk {a b : Bool} (h : a = true) (k : b = true) : (a && b) = true := by rw [h, k]; rfl
theorem laidOut : laidOutB Tryd.prog = true := by kernel_rfl
theorem rowed : mapsRowed Tryd.prog = true := by kernel_rfl
theorem stops : (Tryd.prog.stops == []) = true := by kernel_rfl
theorem stopKnobs : (Tryd.prog.stopKnobs == []) = true := by kernel_rfl
theorem plainKeys : (Rows.calendarDatesRow.plainKeys == Tryd.prog.plainKeys) = true := by kernel_rfl
theorem plainKeys_of {b : Bool} (h : b = Rows.calendarDatesRow.plainKeys) : (b == Tryd.prog.plainKeys) = true := by subst h; exact plainKeys
theorem make_of {m : Make} (h : m = Rows.calendarDatesRow.make) : (Tryd.prog.make == some m) = true := by subst h; exact make
theorem lifted_of {b : Bool} (h : b = Rows.calendarDatesRow.lifted) : (b == Tryd.prog.liftsFinal) = true := by subst h; exact lifted
theorem looks : Rows.calendarDatesCard.stood.looks = Tryd.prog.looks [] := by kernel_rfl

/-- the parameters' types that the laws of this layer have -/
def kinds5 : List TypeId := [23, 3, 4, 9, 5, 28]
theorem readable5 : ∀ t ∈ kinds5, Tryd.prog.readableRec t = true ∧ t < Tryd.prog.types.size := by
  have h : (kinds5.all fun t => Tryd.prog.readableRec t && decide (t < Tryd.prog.types.size)) = true := by kernel_rfl
  intro t ht
  have := List.all_eq_true.1 h t ht
  simpa using this
theorem standIn5 : ∀ t ∈ kinds5, Tryd.prog.wantsStandIn t = false := by
  have h : (kinds5.all fun t => !Tryd.prog.wantsStandIn t) = true := by kernel_rfl
  intro t ht
  have := List.all_eq_true.1 h t ht
  simpa using this
theorem readable_of5 {ts : Array TypeId} (h : (ts.toList.all fun t => kinds5.contains t) = true) : ∀ t ∈ ts.toList, Tryd.prog.readableRec t = true ∧ t < Tryd.prog.types.size := fun t ht =>
  readable5 t (by have := List.all_eq_true.1 h t ht; simpa using this)
theorem standIn_of5 {ts : Array TypeId} (h : (ts.toList.all fun t => kinds5.contains t) = true) : ∀ (j : Nat) t, ts[j]? = some t → Tryd.prog.wantsStandIn t = false := fun j t ht =>
  standIn5 t (by have := List.all_eq_true.1 h t (by simpa using Array.mem_of_getElem? ht); simpa using this)
end Go.Proofs.YtffnmejabphabaaDoor.facts
