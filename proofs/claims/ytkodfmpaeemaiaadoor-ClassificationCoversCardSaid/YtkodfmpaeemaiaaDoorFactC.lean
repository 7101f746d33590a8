import Derived.Test.YtkodfmpaeemaiaaDoorRows
/- A closed fact of this program that every row asks. -/
namespace Go.Proofs.YtkodfmpaeemaiaaDoor.facts
open Go
theorem lifted : (Rows.classificationValidRow.lifted == Tryd.prog.liftsFinal) = true := by kernel_rfl
end Go.Proofs.YtkodfmpaeemaiaaDoor.facts
