/- A closed fact of this program that every row asks. -/
import Derived.Test.YtaggodjplgmmhaaDoorCards
namespace Go.Proofs.YtaggodjplgmmhaaDoor.facts
open Go
theorem mainIs : Tryd.prog.mainIs = some (Rows.naturalDividesCard.stood.harness.1, Rows.naturalDividesCard.stood.harness.2.toList) := by kernel_rfl
end Go.Proofs.YtaggodjplgmmhaaDoor.facts
