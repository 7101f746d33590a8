import Derived.Test.YtejcdgkcmbmbmaaDoorRows
/- A closed fact of this program that every row asks. -/
namespace Go.Proofs.YtejcdgkcmbmbmaaDoor.facts
open Go
theorem mayEnter : Tryd.prog.mayEnter = true := by kernel_rfl
end Go.Proofs.YtejcdgkcmbmbmaaDoor.facts
