import Derived.Test.YtffnmejabphabaaDoorCards
/- A closed fact of this program that every row asks. -/
namespace Go.Proofs.YtffnmejabphabaaDoor.facts
open Go
theorem mainIs : Tryd.prog.mainIs = some (Rows.calendarDatesCard.stood.harness.1, Rows.calendarDatesCard.stood.harness.2.toList) := by kernel_rfl
end Go.Proofs.YtffnmejabphabaaDoor.facts
