import Derived.Test.YtlgcflapgdkghaaDoorCards
/- A closed fact of this program that every row asks. -/
namespace Go.Proofs.YtlgcflapgdkghaaDoor.facts
open Go
theorem mainIs : Tryd.prog.mainIs = some (Rows.rationalMakesCard.stood.harness.1, Rows.rationalMakesCard.stood.harness.2.toList) := by kernel_rfl
end Go.Proofs.YtlgcflapgdkghaaDoor.facts
