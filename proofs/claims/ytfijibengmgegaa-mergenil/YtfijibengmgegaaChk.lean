/- The contracts of ikey.Check and of the document's own Check: what is wrong with a key, told by a plain function. -/
import Derived.Test.YtfijibengmgegaaChecked
import Derived.Test.YtfijibengmgegaaMem
namespace Go.Proofs.Ytfijibengmgegaa
open Go.RowKit

/-- What is wrong with a key whose user has n bytes. -/
def chk (n q : Nat) (k : Int) : Nat := if 64 < n then 21 else if 72057594037927935 < q then 22 else if k = 0 ∨ k = 1 then 0 else 23

end Go.Proofs.Ytfijibengmgegaa
