import Derived.Test.YtmhjimcdiglpcaaGreatRows
/- A closed fact of this program that every row asks. -/
namespace Go.Proofs.YtmhjimcdiglpcaaGreat.facts
open Go
theorem stopsHeard : Tryz.prog.stopsHeard = true := by kernel_rfl
end Go.Proofs.YtmhjimcdiglpcaaGreat.facts
/- A closed fact of this program that every row asks. -/
namespace Go.Proofs.YtmhjimcdiglpcaaGreat.facts
open Go
theorem mayEnter : Tryz.prog.mayEnter = true := by kernel_rfl
end Go.Proofs.YtmhjimcdiglpcaaGreat.facts
/- A closed fact of this program that every row asks. -/
namespace Go.Proofs.YtmhjimcdiglpcaaGreat.facts
open Go
theorem lifted : (Rows.sampleCountsRow.lifted == Tryz.prog.liftsFinal) = true := by kernel_rfl
end Go.Proofs.YtmhjimcdiglpcaaGreat.facts
/- A closed fact of this program that every row asks. -/
namespace Go.Proofs.YtmhjimcdiglpcaaGreat.facts
open Go
theorem make : (Tryz.prog.make == some Rows.sampleCountsRow.make) = true := by kernel_rfl
end Go.Proofs.YtmhjimcdiglpcaaGreat.facts
