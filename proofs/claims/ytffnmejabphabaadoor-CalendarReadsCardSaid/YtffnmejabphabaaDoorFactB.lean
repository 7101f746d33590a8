import Derived.Test.YtffnmejabphabaaDoorRows
/- A closed fact of this program that every row asks. -/
namespace Go.Proofs.YtffnmejabphabaaDoor.facts
open Go
theorem mayEnter : Tryd.prog.mayEnter = true := by kernel_rfl
end Go.Proofs.YtffnmejabphabaaDoor.facts
