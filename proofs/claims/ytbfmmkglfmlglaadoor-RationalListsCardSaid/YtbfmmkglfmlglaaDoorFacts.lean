import Derived.Test.YtbfmmkglfmlglaaDoorFrame
import Derived.Test.YtbfmmkglfmlglaaDoorFactA
import Derived.Test.YtbfmmkglfmlglaaDoorFactB
import Derived.Test.YtbfmmkglfmlglaaDoorFactC
import Derived.Test.YtbfmmkglfmlglaaDoorFactD
import Derived.Test.YtbfmmkglfmlglaaDoorFactE
/- Closed facts of this program that every row asks: each once. -/
namespace Go.Proofs.YtbfmmkglfmlglaaDoor.facts
open Go.ChangeShapes Go.WideShapes Go.ChangeAt Go.RowKit
theorem and_mk {a b : Bool} (h : a = true) (k : b = true) : (a && b) = true := by rw [h, k]; rfl
theorem laidOut : laidOutB Tryd.prog = true := by kernel_rfl
theorem rowed : mapsRowed Tryd.prog = true := by kernel_rfl
theorem stops : (Tryd.prog.stops == []) = true := by kernel_rfl
theorem stopKnobs : (Tryd.prog.stopKnobs == []) = true := by kernel_rfl
theorem plainKeys : (Rows.rationalListsRow.plainKeys == Tryd.prog.plainKeys) = true := by kernel_rfl
theorem plainKeys_of {b : Bool} (h : b = Rows.rationalListsRow.plainKeys) : (b == Tryd.prog.plainKeys) = true := by subst h; exact plainKeys
theorem make_of {m : Make} (h : m = Rows.rationalListsRow.make) : (Tryd.prog.make == some m) = true := by subst h; exact make
theorem lifted_of {b : Bool} (h : b = Rows.rationalListsRow.lifted) : (b == Tryd.prog.liftsFinal) = true := by subst h; exact lifted
theorem looks : false = Tryd.prog.looks [] := by kernel_rfl

/-- the parameters' types that the laws of this layer have -/
def kinds : List TypeId := [25, 45, 3, 9]
theorem readable : ∀ t ∈ kinds, Tryd.prog.readableRec t = true ∧ t < Tryd.prog.types.size := by
  have h : (kinds.all fun t => Tryd.prog.readableRec t && decide (t < Tryd.prog.types.size)) = true := by kernel_rfl
  intro t ht
  have := List.all_eq_true.1 h t ht
  simpa using this
theorem standIn : ∀ t ∈ kinds, Tryd.prog.wantsStandIn t = false := by
  have h : (kinds.all fun t => !Tryd.prog.wantsStandIn t) = true := by kernel_rfl
  intro t ht
  have := List.all_eq_true.1 h t ht
  simpa using this
theorem readable_of {ts : Array TypeId} (h : (ts.toList.all fun t => kinds.contains t) = true) : ∀ t ∈ ts.toList, Tryd.prog.readableRec t = true ∧ t < Tryd.prog.types.size := fun t ht =>
  readable t (by have := List.all_eq_true.1 h t ht; simpa using this)
theorem standIn_of {ts : Array TypeId} (h : (ts.toList.all fun t => kinds.contains t) = true) : ∀ (j : Nat) t, ts[j]? = some t → Tryd.prog.wantsStandIn t = false := fun j t ht =>
  standIn t (by have := List.all_eq_true.1 h t (by simpa using Array.mem_of_getElem? ht); simpa using this)
end Go.Proofs.YtbfmmkglfmlglaaDoor.facts
