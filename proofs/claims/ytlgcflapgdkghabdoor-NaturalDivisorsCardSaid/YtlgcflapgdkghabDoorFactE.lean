/- A closed fact of this program that every row asks. -/
import Derived.Test.YtlgcflapgdkghabDoorCards
namespace Go.Proofs.YtlgcflapgdkghabDoor.facts
open Go
theorem mainIs : Tryd.prog.mainIs = some (Rows.naturalDivisorsCard.stood.harness.1, Rows.naturalDivisorsCard.stood.harness.2.toList) := by kernel_rfl
end Go.Proofs.YtlgcflapgdkghabDoor.facts
