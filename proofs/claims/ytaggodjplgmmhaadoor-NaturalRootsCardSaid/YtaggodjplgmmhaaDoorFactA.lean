/- A closed fact of this program that every row asks. -/
import Derived.Test.YtaggodjplgmmhaaDoorRows
namespace Go.Proofs.YtaggodjplgmmhaaDoor.facts
open Go
theorem stopsHeard : Tryd.prog.stopsHeard = true := by kernel_rfl
end Go.Proofs.YtaggodjplgmmhaaDoor.facts
