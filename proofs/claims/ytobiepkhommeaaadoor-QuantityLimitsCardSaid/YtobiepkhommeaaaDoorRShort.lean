import Derived.Test.YtobiepkhommeaaaDoorNum5
import Derived.Deep.LoopGhost
/- Contract of the reference's short. -/
namespace Go.Proofs.YtobiepkhommeaaaDoor
open Go.RowKit

/-- what short gives -/
def ShortPost (N d : Nat) (w : World) (e : Ending) (w' : World) : Prop :=
  ∃ ao c, e = .returned (.tuple #[.slice ao (dig (N / d)).length c, .int .u32 ((N % d : Nat) : Int)]) ∧ Fr w.heap.size w' ao c (dig (N / d)) ∧ Below w.heap.size w w'
theorem ret_short {ao : Option Addr} {n c : Nat} {a b : Int} (h : a = b) : Ending.returned (.tuple #[.slice ao n c, .int .u32 a]) = .returned (.tuple #[.slice ao n c, .int .u32 b]) := by rw [h]

end Go.Proofs.YtobiepkhommeaaaDoor
