import Derived.Test.YtjgofoekocdecaaFrame9
import Derived.Test.YtjgofoekocdecaaFactsP
/- Closed facts of this program that every row asks: each once. -/
namespace Go.Proofs.Ytjgofoekocdecaa.facts
open Go.ChangeShapes Go.WideShapes Go.ChangeAt Go.RowKit
theorem and_mk {a b : Bool} (h : a = true) (k : b = true) : (a && b) = true := by rw [h, k]; rfl
theorem laidOut : laidOutB Try.prog = true := by kernel_rfl
theorem rowed : mapsRowed Try.prog = true := by kernel_rfl
theorem stops : (Try.prog.stops == []) = true := by kernel_rfl
theorem stopKnobs : (Try.prog.stopKnobs == []) = true := by kernel_rfl
theorem plainKeys : (Rows.sampleProbabilitiesRow.plainKeys == Try.prog.plainKeys) = true := by kernel_rfl
theorem plainKeys_of {b : Bool} (h : b = Rows.sampleProbabilitiesRow.plainKeys) : (b == Try.prog.plainKeys) = true := by subst h; exact plainKeys
theorem make_of {m : Make} (h : m = Rows.sampleProbabilitiesRow.make) : (Try.prog.make == some m) = true := by subst h; exact make
theorem lifted_of {b : Bool} (h : b = Rows.sampleProbabilitiesRow.lifted) : (b == Try.prog.liftsFinal) = true := by subst h; exact lifted

/-- the parameters' types that the laws of layer 10 have -/
def kinds10 : List TypeId := [3, 22]
theorem readable10 : ∀ t ∈ kinds10, Try.prog.readableRec t = true ∧ t < Try.prog.types.size := by
  have h : (kinds10.all fun t => Try.prog.readableRec t && decide (t < Try.prog.types.size)) = true := by kernel_rfl
  intro t ht
  have := List.all_eq_true.1 h t ht
  simpa using this
theorem readable_of10 {ts : Array TypeId} (h : (ts.toList.all fun t => kinds10.contains t) = true) : ∀ t ∈ ts.toList, Try.prog.readableRec t = true ∧ t < Try.prog.types.size := fun t ht =>
  readable10 t (by have := List.all_eq_true.1 h t ht; simpa using this)
end Go.Proofs.Ytjgofoekocdecaa.facts
