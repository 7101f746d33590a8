import Derived.Test.YtghdnnfohllcbaaRat9
/- Contracts: a number rounded to decimals. -/
namespace Go.Proofs.Ytghdnnfohllcbaa
open Go.RowKit

end Go.Proofs.Ytghdnnfohllcbaa
