import Derived.Test.YtdhonklockooaaaRat9
/- Contracts: a number rounded to decimals. -/
namespace Go.Proofs.Ytdhonklockooaaa
open Go.RowKit

end Go.Proofs.Ytdhonklockooaaa
