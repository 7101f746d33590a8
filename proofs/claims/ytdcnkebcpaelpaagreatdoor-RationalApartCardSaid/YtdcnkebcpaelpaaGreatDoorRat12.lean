import Derived.Test.YtdcnkebcpaelpaaGreatDoorRat9
/- Contracts: a number rounded to decimals. -/
namespace Go.Proofs.YtdcnkebcpaelpaaGreatDoor
open Go.RowKit

end Go.Proofs.YtdcnkebcpaelpaaGreatDoor
