/- The contract of codec.PutFixed: what it lays behind bytes, in new memory. -/
import Derived.Test.YtfijibengmgegaaOwnFn
import Derived.Test.YtfijibengmgegaaFits
import Derived.Test.YtfijibengmgegaaPlainPut
namespace Go.Proofs.Ytfijibengmgegaa
open Go.RowKit

end Go.Proofs.Ytfijibengmgegaa
