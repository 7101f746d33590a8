import Derived.Test.YtbfmmkglfmlglaaDoorRows
/- A closed fact of this program that every row asks. -/
namespace Go.Proofs.YtbfmmkglfmlglaaDoor.facts
open Go
theorem stopsHeard : Tryd.prog.stopsHeard = true := by kernel_rfl
end Go.Proofs.YtbfmmkglfmlglaaDoor.facts
