/- A closed fact of this program that every row asks. -/
import Derived.Test.YtaggodjplgmmhaaDoorRows
namespace Go.Proofs.YtaggodjplgmmhaaDoor.facts
open Go
theorem make : (Tryd.prog.make == some Rows.naturalDividesRow.make) = true := by kernel_rfl
end Go.Proofs.YtaggodjplgmmhaaDoor.facts
