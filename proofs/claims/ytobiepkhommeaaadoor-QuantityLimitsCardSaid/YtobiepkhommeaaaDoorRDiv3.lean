import Derived.Test.YtobiepkhommeaaaDoorRDiv2
import Derived.Test.YtobiepkhommeaaaDoorRShort
import Derived.Test.YtobiepkhommeaaaDoorGcds2
/- Contract of the reference's Divide, for every divisor above 0. -/
namespace Go.Proofs.YtobiepkhommeaaaDoor
open Go.RowKit

end Go.Proofs.YtobiepkhommeaaaDoor
