/- The contract of codec's own: a copy of bytes in new memory, with room behind. -/
import Derived.Test.YtfijibengmgegaaOwn
namespace Go.Proofs.Ytfijibengmgegaa
open Go.RowKit

end Go.Proofs.Ytfijibengmgegaa
