import Derived.Test.YtaefncebebonoaaDoorRows
/- A closed fact of this program that every row asks. -/
namespace Go.Proofs.YtaefncebebonoaaDoor.facts
open Go
theorem mayEnter : Tryd.prog.mayEnter = true := by kernel_rfl
end Go.Proofs.YtaefncebebonoaaDoor.facts
