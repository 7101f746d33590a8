/- A closed fact of this program that every row asks. -/
import Derived.Test.YtepmlobgmklniaaDoorCards
namespace Go.Proofs.YtepmlobgmklniaaDoor.facts
open Go
theorem mainIs : Tryd.prog.mainIs = some (Rows.naturalReadsCard.stood.harness.1, Rows.naturalReadsCard.stood.harness.2.toList) := by kernel_rfl
end Go.Proofs.YtepmlobgmklniaaDoor.facts
