import Derived.Test.YtkedgkfdmdlhoaaDoorFrame6
import Derived.Test.YtkedgkfdmdlhoaaDoorFrameQ9
import Derived.Test.YtkedgkfdmdlhoaaDoorFactsP
import Derived.Test.YtkedgkfdmdlhoaaDoorFactE
/- Closed facts of this program that every row asks: each once. -/
namespace Go.Proofs.YtkedgkfdmdlhoaaDoor.facts
open Go.ChangeShapes Go.WideShapes Go.ChangeAt Go.RowKit
theorem and_mk {a b : Bool} (h : a = true) (k : b = true) : (a && b) = true := by rw [h, k]; rfl
theorem laidOut : laidOutB Tryd.prog = true := by kernel_rfl
theorem rowed : mapsRowed Tryd.prog = true := by kernel_rfl
theorem stops : (Tryd.prog.stops == []) = true := by kernel_rfl
theorem stopKnobs : (Tryd.prog.stopKnobs == []) = true := by kernel_rfl
theorem plainKeys : (Rows.productValidRow.plainKeys == Tryd.prog.plainKeys) = true := by kernel_rfl
theorem plainKeys_of {b : Bool} (h : b = Rows.productValidRow.plainKeys) : (b == Tryd.prog.plainKeys) = true := by subst h; exact plainKeys
theorem make_of {m : Make} (h : m = Rows.productValidRow.make) : (Tryd.prog.make == some m) = true := by subst h; exact make
theorem lifted_of {b : Bool} (h : b = Rows.productValidRow.lifted) : (b == Tryd.prog.liftsFinal) = true := by subst h; exact lifted
theorem looks : Rows.productValidCard.stood.looks = Tryd.prog.looks [] := by kernel_rfl

/-- the parameters' types that the laws of layer 9 have -/
def kindsQ : List TypeId := [3, 27, 26]
theorem readableQ : ∀ t ∈ kindsQ, Tryd.prog.readableRec t = true ∧ t < Tryd.prog.types.size := by
  have h : (kindsQ.all fun t => Tryd.prog.readableRec t && decide (t < Tryd.prog.types.size)) = true := by kernel_rfl
  intro t ht
  have := List.all_eq_true.1 h t ht
  simpa using this
theorem standInQ : ∀ t ∈ kindsQ, Tryd.prog.wantsStandIn t = false := by
  have h : (kindsQ.all fun t => !Tryd.prog.wantsStandIn t) = true := by kernel_rfl
  intro t ht
  have := List.all_eq_true.1 h t ht
  simpa using this
theorem readable_ofQ {ts : Array TypeId} (h : (ts.toList.all fun t => kindsQ.contains t) = true) : ∀ t ∈ ts.toList, Tryd.prog.readableRec t = true ∧ t < Tryd.prog.types.size := fun t ht =>
  readableQ t (by have := List.all_eq_true.1 h t ht; simpa using this)
theorem standIn_ofQ {ts : Array TypeId} (h : (ts.toList.all fun t => kindsQ.contains t) = true) : ∀ (j : Nat) t, ts[j]? = some t → Tryd.prog.wantsStandIn t = false := fun j t ht =>
  standInQ t (by have := List.all_eq_true.1 h t (by simpa using Array.mem_of_getElem? ht); simpa using this)
end Go.Proofs.YtkedgkfdmdlhoaaDoor.facts
