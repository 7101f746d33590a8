import Derived.Test.YtffnmejabphabaaDoorRows
/- A closed fact of this program that every row asks. -/
namespace Go.Proofs.YtffnmejabphabaaDoor.facts
open Go
theorem lifted : (Rows.calendarDatesRow.lifted == Tryd.prog.liftsFinal) = true := by kernel_rfl
end Go.Proofs.YtffnmejabphabaaDoor.facts
