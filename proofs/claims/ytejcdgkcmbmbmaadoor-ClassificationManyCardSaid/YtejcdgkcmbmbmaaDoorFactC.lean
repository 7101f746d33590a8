import Derived.Test.YtejcdgkcmbmbmaaDoorRows
/- A closed fact of this program that every row asks. -/
namespace Go.Proofs.YtejcdgkcmbmbmaaDoor.facts
open Go
theorem lifted : (Rows.classificationParsesRow.lifted == Tryd.prog.liftsFinal) = true := by kernel_rfl
end Go.Proofs.YtejcdgkcmbmbmaaDoor.facts
