import Derived.Test.YtejcdgkcmbmbmaaDoorCards
/- A closed fact of this program that every row asks. -/
namespace Go.Proofs.YtejcdgkcmbmbmaaDoor.facts
open Go
theorem mainIs : Tryd.prog.mainIs = some (Rows.classificationParsesCard.stood.harness.1, Rows.classificationParsesCard.stood.harness.2.toList) := by kernel_rfl
end Go.Proofs.YtejcdgkcmbmbmaaDoor.facts
