import Derived.Test.YtmhjimcdiglpcaaGreatRat9
/- Contracts: a number rounded to decimals. -/
namespace Go.Proofs.YtmhjimcdiglpcaaGreat
open Go.RowKit

end Go.Proofs.YtmhjimcdiglpcaaGreat
