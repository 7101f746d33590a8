import Derived.Test.YtjgofoekocdecaaGreatRows
/- A closed fact of this program that every row asks. -/
namespace Go.Proofs.YtjgofoekocdecaaGreat.facts
open Go
theorem stopsHeard : Tryz.prog.stopsHeard = true := by kernel_rfl
end Go.Proofs.YtjgofoekocdecaaGreat.facts
/- A closed fact of this program that every row asks. -/
namespace Go.Proofs.YtjgofoekocdecaaGreat.facts
open Go
theorem mayEnter : Tryz.prog.mayEnter = true := by kernel_rfl
end Go.Proofs.YtjgofoekocdecaaGreat.facts
/- A closed fact of this program that every row asks. -/
namespace Go.Proofs.YtjgofoekocdecaaGreat.facts
open Go
theorem lifted : (Rows.sampleDrawsRow.lifted == Tryz.prog.liftsFinal) = true := by kernel_rfl
end Go.Proofs.YtjgofoekocdecaaGreat.facts
/- A closed fact of this program that every row asks. -/
namespace Go.Proofs.YtjgofoekocdecaaGreat.facts
open Go
theorem make : (Tryz.prog.make == some Rows.sampleDrawsRow.make) = true := by kernel_rfl
end Go.Proofs.YtjgofoekocdecaaGreat.facts
