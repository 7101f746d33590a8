import Derived.Test.YtbfmmkglfmlglaaDoorRat9
/- Contracts: a number rounded to decimals. -/
namespace Go.Proofs.YtbfmmkglfmlglaaDoor
open Go.RowKit

end Go.Proofs.YtbfmmkglfmlglaaDoor
