import Derived.Test.YtlgcflapgdkghaaDoorRows
/- A closed fact of this program that every row asks. -/
namespace Go.Proofs.YtlgcflapgdkghaaDoor.facts
open Go
theorem mayEnter : Tryd.prog.mayEnter = true := by kernel_rfl
end Go.Proofs.YtlgcflapgdkghaaDoor.facts
