import Derived.Test.YtdcnkebcpaelpaaGreatDoorRows
import Derived.Test.YtdcnkebcpaelpaaGreatDoorCards
/- A closed fact of this program that every row asks. -/
namespace Go.Proofs.YtdcnkebcpaelpaaGreatDoor.facts
open Go
theorem stopsHeard : Tryz.prog.stopsHeard = true := by kernel_rfl
end Go.Proofs.YtdcnkebcpaelpaaGreatDoor.facts
/- A closed fact of this program that every row asks. -/
namespace Go.Proofs.YtdcnkebcpaelpaaGreatDoor.facts
open Go
theorem mayEnter : Tryz.prog.mayEnter = true := by kernel_rfl
end Go.Proofs.YtdcnkebcpaelpaaGreatDoor.facts
/- A closed fact of this program that every row asks. -/
namespace Go.Proofs.YtdcnkebcpaelpaaGreatDoor.facts
open Go
theorem lifted : (Rows.rationalApartRow.lifted == Tryz.prog.liftsFinal) = true := by kernel_rfl
end Go.Proofs.YtdcnkebcpaelpaaGreatDoor.facts
/- A closed fact of this program that every row asks. -/
namespace Go.Proofs.YtdcnkebcpaelpaaGreatDoor.facts
open Go
theorem make : (Tryz.prog.make == some Rows.rationalApartRow.make) = true := by kernel_rfl
end Go.Proofs.YtdcnkebcpaelpaaGreatDoor.facts
/- A closed fact of this program that every row asks. -/
namespace Go.Proofs.YtdcnkebcpaelpaaGreatDoor.facts
open Go
theorem mainIs : Tryz.prog.mainIs = some (Rows.rationalApartCard.stood.harness.1, Rows.rationalApartCard.stood.harness.2.toList) := by kernel_rfl
end Go.Proofs.YtdcnkebcpaelpaaGreatDoor.facts
