/- The walk of MergeNames. -/
import Derived.Test.YtfijibengmgegaaM16WNil
import Derived.Test.YtfijibengmgegaaM16Mg
namespace Go.Proofs.Ytfijibengmgegaa
open Go.RowKit
theorem mergeNames_walk (w : World) :
    Calls Try.prog 3 #[] w fun e w' => e = .returned (.bool true) ∧ Below w.heap.size w w' := mergeNames_of mg16 w
end Go.Proofs.Ytfijibengmgegaa
