import Derived.Test.YtaefncebebonoaaDoorRows
/- A closed fact of this program that every row asks. -/
namespace Go.Proofs.YtaefncebebonoaaDoor.facts
open Go
theorem lifted : (Rows.rationalSumsRow.lifted == Tryd.prog.liftsFinal) = true := by kernel_rfl
end Go.Proofs.YtaefncebebonoaaDoor.facts
