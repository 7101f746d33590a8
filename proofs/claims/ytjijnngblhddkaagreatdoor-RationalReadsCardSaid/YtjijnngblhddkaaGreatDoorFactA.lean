import Derived.Test.YtjijnngblhddkaaGreatDoorRows
/- A closed fact of this program that every row asks. -/
namespace Go.Proofs.YtjijnngblhddkaaGreatDoor.facts
open Go
theorem stopsHeard : Tryz.prog.stopsHeard = true := by kernel_rfl
end Go.Proofs.YtjijnngblhddkaaGreatDoor.facts
