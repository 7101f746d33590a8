/- A closed fact of this program that every row asks. -/
import Derived.Test.YtepmlobgmklniaaDoorRows
namespace Go.Proofs.YtepmlobgmklniaaDoor.facts
open Go
theorem make : (Tryd.prog.make == some Rows.naturalReadsRow.make) = true := by kernel_rfl
end Go.Proofs.YtepmlobgmklniaaDoor.facts
