import Derived.Test.YtdcnkebcpaelpaaFrame9
import Derived.Test.YtdcnkebcpaelpaaFactsP
/- Closed facts of this program that every row asks: each once. -/
namespace Go.Proofs.Ytdcnkebcpaelpaa.facts
open Go.ChangeShapes Go.WideShapes Go.ChangeAt Go.RowKit
theorem and_mk {a b : Bool} (h : a = true) (k : b = true) : (a && b) = true := by rw [h, k]; rfl
theorem laidOut : laidOutB Try.prog = true := by kernel_rfl
theorem rowed : mapsRowed Try.prog = true := by kernel_rfl
theorem stops : (Try.prog.stops == []) = true := by kernel_rfl
theorem stopKnobs : (Try.prog.stopKnobs == []) = true := by kernel_rfl
theorem plainKeys : (Rows.tariffAveragesRow.plainKeys == Try.prog.plainKeys) = true := by kernel_rfl
theorem plainKeys_of {b : Bool} (h : b = Rows.tariffAveragesRow.plainKeys) : (b == Try.prog.plainKeys) = true := by subst h; exact plainKeys
theorem make_of {m : Make} (h : m = Rows.tariffAveragesRow.make) : (Try.prog.make == some m) = true := by subst h; exact make
theorem lifted_of {b : Bool} (h : b = Rows.tariffAveragesRow.lifted) : (b == Try.prog.liftsFinal) = true := by subst h; exact lifted

/-- the parameters' types that the laws of layer 14 have -/
def kinds14 : List TypeId := [3, 2, 26, 24, 25]
theorem readable14 : ∀ t ∈ kinds14, Try.prog.readableRec t = true ∧ t < Try.prog.types.size := by
  have h : (kinds14.all fun t => Try.prog.readableRec t && decide (t < Try.prog.types.size)) = true := by kernel_rfl
  intro t ht
  have := List.all_eq_true.1 h t ht
  simpa using this
theorem readable_of14 {ts : Array TypeId} (h : (ts.toList.all fun t => kinds14.contains t) = true) : ∀ t ∈ ts.toList, Try.prog.readableRec t = true ∧ t < Try.prog.types.size := fun t ht =>
  readable14 t (by have := List.all_eq_true.1 h t ht; simpa using this)
end Go.Proofs.Ytdcnkebcpaelpaa.facts
