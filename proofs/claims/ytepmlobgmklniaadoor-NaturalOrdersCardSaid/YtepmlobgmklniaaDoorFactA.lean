/- A closed fact of this program that every row asks. -/
import Derived.Test.YtepmlobgmklniaaDoorRows
namespace Go.Proofs.YtepmlobgmklniaaDoor.facts
open Go
theorem stopsHeard : Tryd.prog.stopsHeard = true := by kernel_rfl
end Go.Proofs.YtepmlobgmklniaaDoor.facts
