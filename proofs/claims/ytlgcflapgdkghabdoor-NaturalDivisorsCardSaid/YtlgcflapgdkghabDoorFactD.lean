/- A closed fact of this program that every row asks. -/
import Derived.Test.YtlgcflapgdkghabDoorRows
namespace Go.Proofs.YtlgcflapgdkghabDoor.facts
open Go
theorem make : (Tryd.prog.make == some Rows.naturalDivisorsRow.make) = true := by kernel_rfl
end Go.Proofs.YtlgcflapgdkghabDoor.facts
