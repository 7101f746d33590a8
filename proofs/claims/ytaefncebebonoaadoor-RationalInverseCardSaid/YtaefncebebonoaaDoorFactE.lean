import Derived.Test.YtaefncebebonoaaDoorCards
/- A closed fact of this program that every row asks. -/
namespace Go.Proofs.YtaefncebebonoaaDoor.facts
open Go
theorem mainIs : Tryd.prog.mainIs = some (Rows.rationalSumsCard.stood.harness.1, Rows.rationalSumsCard.stood.harness.2.toList) := by kernel_rfl
end Go.Proofs.YtaefncebebonoaaDoor.facts
