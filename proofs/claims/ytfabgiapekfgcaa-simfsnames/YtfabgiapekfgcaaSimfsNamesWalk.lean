/- staddlelaw04.SimfsNames returns true, and leaves memory as it was. -/
import Derived.Test.YtfabgiapekfgcaaSimfsNamesOf
import Derived.Test.YtfabgiapekfgcaaFsOkD
namespace Go.Proofs.Ytfabgiapekfgcaa
open Go.RowKit
theorem simfsNames_walk (w : World) : Calls Try.prog 3 #[] w fun e w' => e = .returned (.bool true) ∧ Below w.heap.size w w' := simfsNames_of fsOk w
end Go.Proofs.Ytfabgiapekfgcaa
