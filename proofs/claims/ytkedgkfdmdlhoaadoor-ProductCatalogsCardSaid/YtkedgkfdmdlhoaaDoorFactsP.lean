import Derived.Test.YtkedgkfdmdlhoaaDoorRows
/- A closed fact of this program that every row asks. -/
namespace Go.Proofs.YtkedgkfdmdlhoaaDoor.facts
open Go
theorem stopsHeard : Tryd.prog.stopsHeard = true := by kernel_rfl
end Go.Proofs.YtkedgkfdmdlhoaaDoor.facts
/- A closed fact of this program that every row asks. -/
namespace Go.Proofs.YtkedgkfdmdlhoaaDoor.facts
open Go
theorem mayEnter : Tryd.prog.mayEnter = true := by kernel_rfl
end Go.Proofs.YtkedgkfdmdlhoaaDoor.facts
/- A closed fact of this program that every row asks. -/
namespace Go.Proofs.YtkedgkfdmdlhoaaDoor.facts
open Go
theorem lifted : (Rows.productValidRow.lifted == Tryd.prog.liftsFinal) = true := by kernel_rfl
end Go.Proofs.YtkedgkfdmdlhoaaDoor.facts
/- A closed fact of this program that every row asks. -/
namespace Go.Proofs.YtkedgkfdmdlhoaaDoor.facts
open Go
theorem make : (Tryd.prog.make == some Rows.productValidRow.make) = true := by kernel_rfl
end Go.Proofs.YtkedgkfdmdlhoaaDoor.facts
