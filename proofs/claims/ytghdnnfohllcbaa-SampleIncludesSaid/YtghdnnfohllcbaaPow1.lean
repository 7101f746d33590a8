import Derived.Test.YtghdnnfohllcbaaPowM
import Derived.Test.YtghdnnfohllcbaaNum5
import Derived.Test.YtghdnnfohllcbaaShelf
import Derived.Lib.RabinKarpLaws
/- Contracts of the powers: natural.power and the reference's Raise. -/
namespace Go.Proofs.Ytghdnnfohllcbaa
open Go.RowKit

end Go.Proofs.Ytghdnnfohllcbaa
