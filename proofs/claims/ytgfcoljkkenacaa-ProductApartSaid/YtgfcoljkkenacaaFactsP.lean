import Derived.Test.YtgfcoljkkenacaaRows
/- A closed fact of this program that every row asks. -/
namespace Go.Proofs.Ytgfcoljkkenacaa.facts
open Go
theorem stopsHeard : Try.prog.stopsHeard = true := by kernel_rfl
end Go.Proofs.Ytgfcoljkkenacaa.facts
/- A closed fact of this program that every row asks. -/
namespace Go.Proofs.Ytgfcoljkkenacaa.facts
open Go
theorem mayEnter : Try.prog.mayEnter = true := by kernel_rfl
end Go.Proofs.Ytgfcoljkkenacaa.facts
/- A closed fact of this program that every row asks. -/
namespace Go.Proofs.Ytgfcoljkkenacaa.facts
open Go
theorem lifted : (Rows.productDigitsRow.lifted == Try.prog.liftsFinal) = true := by kernel_rfl
end Go.Proofs.Ytgfcoljkkenacaa.facts
/- A closed fact of this program that every row asks. -/
namespace Go.Proofs.Ytgfcoljkkenacaa.facts
open Go
theorem make : (Try.prog.make == some Rows.productDigitsRow.make) = true := by kernel_rfl
end Go.Proofs.Ytgfcoljkkenacaa.facts
