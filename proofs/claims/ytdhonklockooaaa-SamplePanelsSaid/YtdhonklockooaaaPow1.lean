import Derived.Test.YtdhonklockooaaaPowM
import Derived.Test.YtdhonklockooaaaNum5
import Derived.Test.YtdhonklockooaaaShelf
import Derived.Lib.RabinKarpLaws
/- Contracts of the powers: natural.power and the reference's Raise. -/
namespace Go.Proofs.Ytdhonklockooaaa
open Go.RowKit

end Go.Proofs.Ytdhonklockooaaa
