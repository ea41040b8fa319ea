/- Slices of bytes that a call owns: what make and append leave, told for lists of bytes. -/
import Derived.Test.YtcdfgcjecmpjhaaChecked
import Derived.Test.YtcdfgcjecmpjhaaMem
import Derived.Lib.AppendStr
import Derived.Laws.AppendOwnNone
namespace Go.Proofs.Ytcdfgcjecmpjhaa
open Go.RowKit

end Go.Proofs.Ytcdfgcjecmpjhaa
