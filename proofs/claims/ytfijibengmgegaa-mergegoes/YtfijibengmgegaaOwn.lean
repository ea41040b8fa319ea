/- Slices of bytes that a call owns: what make and append leave, told for lists of bytes. -/
import Derived.Test.YtfijibengmgegaaChecked
import Derived.Test.YtfijibengmgegaaQa00
import Derived.Lib.AppendStr
import Derived.Laws.AppendOwnNone
namespace Go.Proofs.Ytfijibengmgegaa
open Go.RowKit

end Go.Proofs.Ytfijibengmgegaa
