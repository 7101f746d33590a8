import Derived.Test.YtjijnngblhddkaaGreatDoorRows
import Derived.Test.YtjijnngblhddkaaGreatDoorCards
/- A closed fact of this program that every row asks. -/
namespace Go.Proofs.YtjijnngblhddkaaGreatDoor.facts
open Go
theorem stopsHeard : Tryz.prog.stopsHeard = true := by kernel_rfl
end Go.Proofs.YtjijnngblhddkaaGreatDoor.facts
/- A closed fact of this program that every row asks. -/
namespace Go.Proofs.YtjijnngblhddkaaGreatDoor.facts
open Go
theorem mayEnter : Tryz.prog.mayEnter = true := by kernel_rfl
end Go.Proofs.YtjijnngblhddkaaGreatDoor.facts
/- A closed fact of this program that every row asks. -/
namespace Go.Proofs.YtjijnngblhddkaaGreatDoor.facts
open Go
theorem lifted : (Rows.rationalPrintsRow.lifted == Tryz.prog.liftsFinal) = true := by kernel_rfl
end Go.Proofs.YtjijnngblhddkaaGreatDoor.facts
/- A closed fact of this program that every row asks. -/
namespace Go.Proofs.YtjijnngblhddkaaGreatDoor.facts
open Go
theorem make : (Tryz.prog.make == some Rows.rationalPrintsRow.make) = true := by kernel_rfl
end Go.Proofs.YtjijnngblhddkaaGreatDoor.facts
/- A closed fact of this program that every row asks. -/
namespace Go.Proofs.YtjijnngblhddkaaGreatDoor.facts
open Go
theorem mainIs : Tryz.prog.mainIs = some (Rows.rationalPrintsCard.stood.harness.1, Rows.rationalPrintsCard.stood.harness.2.toList) := by kernel_rfl
end Go.Proofs.YtjijnngblhddkaaGreatDoor.facts
