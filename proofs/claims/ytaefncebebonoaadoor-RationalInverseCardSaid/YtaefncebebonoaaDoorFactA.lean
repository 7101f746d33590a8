import Derived.Test.YtaefncebebonoaaDoorRows
/- A closed fact of this program that every row asks. -/
namespace Go.Proofs.YtaefncebebonoaaDoor.facts
open Go
theorem stopsHeard : Tryd.prog.stopsHeard = true := by kernel_rfl
end Go.Proofs.YtaefncebebonoaaDoor.facts
