import Derived.Test.YtkodfmpaeemaiaaDoorCards
/- A closed fact of this program that every row asks. -/
namespace Go.Proofs.YtkodfmpaeemaiaaDoor.facts
open Go
theorem mainIs : Tryd.prog.mainIs = some (Rows.classificationValidCard.stood.harness.1, Rows.classificationValidCard.stood.harness.2.toList) := by kernel_rfl
end Go.Proofs.YtkodfmpaeemaiaaDoor.facts
