import Derived.Test.YtpoipkjchnopbaaRows
/- A closed fact of this program that every row asks. -/
namespace Go.Proofs.Ytpoipkjchnopbaa.facts
open Go
theorem stopsHeard : Try.prog.stopsHeard = true := by kernel_rfl
end Go.Proofs.Ytpoipkjchnopbaa.facts
/- A closed fact of this program that every row asks. -/
namespace Go.Proofs.Ytpoipkjchnopbaa.facts
open Go
theorem mayEnter : Try.prog.mayEnter = true := by kernel_rfl
end Go.Proofs.Ytpoipkjchnopbaa.facts
/- A closed fact of this program that every row asks. -/
namespace Go.Proofs.Ytpoipkjchnopbaa.facts
open Go
theorem lifted : (Rows.productNormalRow.lifted == Try.prog.liftsFinal) = true := by kernel_rfl
end Go.Proofs.Ytpoipkjchnopbaa.facts
/- A closed fact of this program that every row asks. -/
namespace Go.Proofs.Ytpoipkjchnopbaa.facts
open Go
theorem make : (Try.prog.make == some Rows.productNormalRow.make) = true := by kernel_rfl
end Go.Proofs.Ytpoipkjchnopbaa.facts
