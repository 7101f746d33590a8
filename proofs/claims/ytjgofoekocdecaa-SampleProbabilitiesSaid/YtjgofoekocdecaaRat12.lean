import Derived.Test.YtjgofoekocdecaaRat9
/- Contracts: a number rounded to decimals. -/
namespace Go.Proofs.Ytjgofoekocdecaa
open Go.RowKit

end Go.Proofs.Ytjgofoekocdecaa
