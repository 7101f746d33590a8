import Derived.Test.YtghdnnfohllcbaaRows
/- A closed fact of this program that every row asks. -/
namespace Go.Proofs.Ytghdnnfohllcbaa.facts
open Go
theorem stopsHeard : Try.prog.stopsHeard = true := by kernel_rfl
end Go.Proofs.Ytghdnnfohllcbaa.facts
/- A closed fact of this program that every row asks. -/
namespace Go.Proofs.Ytghdnnfohllcbaa.facts
open Go
theorem mayEnter : Try.prog.mayEnter = true := by kernel_rfl
end Go.Proofs.Ytghdnnfohllcbaa.facts
/- A closed fact of this program that every row asks. -/
namespace Go.Proofs.Ytghdnnfohllcbaa.facts
open Go
theorem lifted : (Rows.sampleAllocatesRow.lifted == Try.prog.liftsFinal) = true := by kernel_rfl
end Go.Proofs.Ytghdnnfohllcbaa.facts
/- A closed fact of this program that every row asks. -/
namespace Go.Proofs.Ytghdnnfohllcbaa.facts
open Go
theorem make : (Try.prog.make == some Rows.sampleAllocatesRow.make) = true := by kernel_rfl
end Go.Proofs.Ytghdnnfohllcbaa.facts
