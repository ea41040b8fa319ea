/- The contract of codec's fits. -/
import Derived.Test.YtfijibengmgegaaChecked
import Derived.Test.YtfijibengmgegaaBits
import Derived.Test.YtfijibengmgegaaPlain
import Derived.Test.YtfijibengmgegaaMem
namespace Go.Proofs.Ytfijibengmgegaa
open Go.RowKit

def fitsB (n : Int) : Bool := decide (1 ≤ n) && decide (n ≤ 8)
end Go.Proofs.Ytfijibengmgegaa
