import Derived.Test.YtlgcflapgdkghaaDoorRows
/- A closed fact of this program that every row asks. -/
namespace Go.Proofs.YtlgcflapgdkghaaDoor.facts
open Go
theorem lifted : (Rows.rationalMakesRow.lifted == Tryd.prog.liftsFinal) = true := by kernel_rfl
end Go.Proofs.YtlgcflapgdkghaaDoor.facts
