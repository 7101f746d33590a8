import Derived.Test.YtcnghhlchjcdhaaRows
/- A closed fact of this program that every row asks. -/
namespace Go.Proofs.Ytcnghhlchjcdhaa.facts
open Go
theorem stopsHeard : Try.prog.stopsHeard = true := by kernel_rfl
end Go.Proofs.Ytcnghhlchjcdhaa.facts
/- A closed fact of this program that every row asks. -/
namespace Go.Proofs.Ytcnghhlchjcdhaa.facts
open Go
theorem mayEnter : Try.prog.mayEnter = true := by kernel_rfl
end Go.Proofs.Ytcnghhlchjcdhaa.facts
/- A closed fact of this program that every row asks. -/
namespace Go.Proofs.Ytcnghhlchjcdhaa.facts
open Go
theorem lifted : (Rows.sampleAllocatesRow.lifted == Try.prog.liftsFinal) = true := by kernel_rfl
end Go.Proofs.Ytcnghhlchjcdhaa.facts
/- A closed fact of this program that every row asks. -/
namespace Go.Proofs.Ytcnghhlchjcdhaa.facts
open Go
theorem make : (Try.prog.make == some Rows.sampleAllocatesRow.make) = true := by kernel_rfl
end Go.Proofs.Ytcnghhlchjcdhaa.facts
