import Derived.Test.YtkodfmpaeemaiaaDoorRows
/- A closed fact of this program that every row asks. -/
namespace Go.Proofs.YtkodfmpaeemaiaaDoor.facts
open Go
theorem mayEnter : Tryd.prog.mayEnter = true := by kernel_rfl
end Go.Proofs.YtkodfmpaeemaiaaDoor.facts
