/- What 'b[k:]' gives, for whatever slice of bytes, nil too. -/
import Derived.Test.YtfijibengmgegaaSliceFrom
namespace Go.Proofs.Ytfijibengmgegaa
open Go.RowKit
end Go.Proofs.Ytfijibengmgegaa
