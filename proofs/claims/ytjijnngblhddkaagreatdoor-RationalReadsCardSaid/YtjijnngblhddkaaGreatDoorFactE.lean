import Derived.Test.YtjijnngblhddkaaGreatDoorCards
/- A closed fact of this program that every row asks. -/
namespace Go.Proofs.YtjijnngblhddkaaGreatDoor.facts
open Go
theorem mainIs : Tryz.prog.mainIs = some (Rows.rationalPrintsCard.stood.harness.1, Rows.rationalPrintsCard.stood.harness.2.toList) := by kernel_rfl
end Go.Proofs.YtjijnngblhddkaaGreatDoor.facts
