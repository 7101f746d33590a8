import Derived.Test.YtjijnngblhddkaaGreatDoorRows
/- A closed fact of this program that every row asks. -/
namespace Go.Proofs.YtjijnngblhddkaaGreatDoor.facts
open Go
theorem lifted : (Rows.rationalPrintsRow.lifted == Tryz.prog.liftsFinal) = true := by kernel_rfl
end Go.Proofs.YtjijnngblhddkaaGreatDoor.facts
