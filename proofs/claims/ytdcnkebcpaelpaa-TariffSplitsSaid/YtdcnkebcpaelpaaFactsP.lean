import Derived.Test.YtdcnkebcpaelpaaRows
/- A closed fact of this program that every row asks. -/
namespace Go.Proofs.Ytdcnkebcpaelpaa.facts
open Go
theorem stopsHeard : Try.prog.stopsHeard = true := by kernel_rfl
end Go.Proofs.Ytdcnkebcpaelpaa.facts
/- A closed fact of this program that every row asks. -/
namespace Go.Proofs.Ytdcnkebcpaelpaa.facts
open Go
theorem mayEnter : Try.prog.mayEnter = true := by kernel_rfl
end Go.Proofs.Ytdcnkebcpaelpaa.facts
/- A closed fact of this program that every row asks. -/
namespace Go.Proofs.Ytdcnkebcpaelpaa.facts
open Go
theorem lifted : (Rows.tariffAveragesRow.lifted == Try.prog.liftsFinal) = true := by kernel_rfl
end Go.Proofs.Ytdcnkebcpaelpaa.facts
/- A closed fact of this program that every row asks. -/
namespace Go.Proofs.Ytdcnkebcpaelpaa.facts
open Go
theorem make : (Try.prog.make == some Rows.tariffAveragesRow.make) = true := by kernel_rfl
end Go.Proofs.Ytdcnkebcpaelpaa.facts
