import Derived.Test.YtkedgkfdmdlhoaaDoorCards
/- A closed fact of this program that every row asks. -/
namespace Go.Proofs.YtkedgkfdmdlhoaaDoor.facts
open Go
theorem mainIs : Tryd.prog.mainIs = some (Rows.productValidCard.stood.harness.1, Rows.productValidCard.stood.harness.2.toList) := by kernel_rfl
end Go.Proofs.YtkedgkfdmdlhoaaDoor.facts
