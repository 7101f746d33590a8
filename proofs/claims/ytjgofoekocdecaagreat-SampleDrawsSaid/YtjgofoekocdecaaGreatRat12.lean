import Derived.Test.YtjgofoekocdecaaGreatRat9
/- Contracts: a number rounded to decimals. -/
namespace Go.Proofs.YtjgofoekocdecaaGreat
open Go.RowKit

end Go.Proofs.YtjgofoekocdecaaGreat
