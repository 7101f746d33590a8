import Derived.Test.YtjgofoekocdecaaPowM
import Derived.Test.YtjgofoekocdecaaNum5
import Derived.Test.YtjgofoekocdecaaShelf
import Derived.Lib.RabinKarpLaws
/- Contracts of the powers: natural.power and the reference's Raise. -/
namespace Go.Proofs.Ytjgofoekocdecaa
open Go.RowKit

end Go.Proofs.Ytjgofoekocdecaa
