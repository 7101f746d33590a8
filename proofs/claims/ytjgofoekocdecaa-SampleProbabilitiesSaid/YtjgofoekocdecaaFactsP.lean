import Derived.Test.YtjgofoekocdecaaRows
/- A closed fact of this program that every row asks. -/
namespace Go.Proofs.Ytjgofoekocdecaa.facts
open Go
theorem stopsHeard : Try.prog.stopsHeard = true := by kernel_rfl
end Go.Proofs.Ytjgofoekocdecaa.facts
/- A closed fact of this program that every row asks. -/
namespace Go.Proofs.Ytjgofoekocdecaa.facts
open Go
theorem mayEnter : Try.prog.mayEnter = true := by kernel_rfl
end Go.Proofs.Ytjgofoekocdecaa.facts
/- A closed fact of this program that every row asks. -/
namespace Go.Proofs.Ytjgofoekocdecaa.facts
open Go
theorem lifted : (Rows.sampleProbabilitiesRow.lifted == Try.prog.liftsFinal) = true := by kernel_rfl
end Go.Proofs.Ytjgofoekocdecaa.facts
/- A closed fact of this program that every row asks. -/
namespace Go.Proofs.Ytjgofoekocdecaa.facts
open Go
theorem make : (Try.prog.make == some Rows.sampleProbabilitiesRow.make) = true := by kernel_rfl
end Go.Proofs.Ytjgofoekocdecaa.facts
