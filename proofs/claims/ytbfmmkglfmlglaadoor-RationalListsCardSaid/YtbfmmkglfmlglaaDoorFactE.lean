import Derived.Test.YtbfmmkglfmlglaaDoorCards
/- A closed fact of this program that every row asks. -/
namespace Go.Proofs.YtbfmmkglfmlglaaDoor.facts
open Go
theorem mainIs : Tryd.prog.mainIs = some (Rows.rationalListsCard.stood.harness.1, Rows.rationalListsCard.stood.harness.2.toList) := by kernel_rfl
end Go.Proofs.YtbfmmkglfmlglaaDoor.facts
