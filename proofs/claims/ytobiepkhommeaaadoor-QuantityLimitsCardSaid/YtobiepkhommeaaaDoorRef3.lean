import Derived.Test.YtobiepkhommeaaaDoorRef1
import Derived.Test.YtobiepkhommeaaaDoorNats2
/- Contracts of the reference's package: sum, difference, product. -/
namespace Go.Proofs.YtobiepkhommeaaaDoor
open Go.RowKit

theorem and_of {e : Int} {s d : Nat} (he : e = (s : Int)) (hs : s < 18446744073709551616) (hd : d = s % 4294967296) : bits BinOp.and IntKind.u64 e 4294967295 = (d : Int) := by
  rw [he, and_mask s hs, hd]

end Go.Proofs.YtobiepkhommeaaaDoor
