import Derived.Test.YtjijnngblhddkaaGreatDoorRows
/- A closed fact of this program that every row asks. -/
namespace Go.Proofs.YtjijnngblhddkaaGreatDoor.facts
open Go
theorem mayEnter : Tryz.prog.mayEnter = true := by kernel_rfl
end Go.Proofs.YtjijnngblhddkaaGreatDoor.facts
