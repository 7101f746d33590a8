import Derived.Test.YtjijnngblhddkaaGreatDoorRat9
/- Contracts: a number rounded to decimals. -/
namespace Go.Proofs.YtjijnngblhddkaaGreatDoor
open Go.RowKit

end Go.Proofs.YtjijnngblhddkaaGreatDoor
