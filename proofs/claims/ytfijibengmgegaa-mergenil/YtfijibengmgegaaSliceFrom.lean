/- Bytes from a place on: what 'b[k:]' gives, told for lists of bytes, wherever it lies. -/
import Derived.Test.YtfijibengmgegaaOwn
namespace Go.Proofs.Ytfijibengmgegaa
open Go.RowKit
end Go.Proofs.Ytfijibengmgegaa
