import Derived.Test.YtobiepkhommeaaaDoorRat4
/- Contract of the reference's Add. -/
namespace Go.Proofs.YtobiepkhommeaaaDoor
open Go.RowKit

end Go.Proofs.YtobiepkhommeaaaDoor
