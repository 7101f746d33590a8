/- A closed fact of this program that every row asks. -/
import Derived.Test.YtlgcflapgdkghabDoorRows
namespace Go.Proofs.YtlgcflapgdkghabDoor.facts
open Go
theorem lifted : (Rows.naturalDivisorsRow.lifted == Tryd.prog.liftsFinal) = true := by kernel_rfl
end Go.Proofs.YtlgcflapgdkghabDoor.facts
