import Derived.Test.YtjmogoijnkcnpaaRows
/- A closed fact of this program that every row asks. -/
namespace Go.Proofs.Ytjmogoijnkcnpaa.facts
open Go
theorem stopsHeard : Try.prog.stopsHeard = true := by kernel_rfl
end Go.Proofs.Ytjmogoijnkcnpaa.facts
/- A closed fact of this program that every row asks. -/
namespace Go.Proofs.Ytjmogoijnkcnpaa.facts
open Go
theorem mayEnter : Try.prog.mayEnter = true := by kernel_rfl
end Go.Proofs.Ytjmogoijnkcnpaa.facts
/- A closed fact of this program that every row asks. -/
namespace Go.Proofs.Ytjmogoijnkcnpaa.facts
open Go
theorem lifted : (Rows.tariffValidRow.lifted == Try.prog.liftsFinal) = true := by kernel_rfl
end Go.Proofs.Ytjmogoijnkcnpaa.facts
/- A closed fact of this program that every row asks. -/
namespace Go.Proofs.Ytjmogoijnkcnpaa.facts
open Go
theorem make : (Try.prog.make == some Rows.tariffValidRow.make) = true := by kernel_rfl
end Go.Proofs.Ytjmogoijnkcnpaa.facts
