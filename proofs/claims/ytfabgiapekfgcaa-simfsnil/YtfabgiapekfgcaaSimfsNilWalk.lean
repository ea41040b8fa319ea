/- staddlelaw04.SimfsNil returns true, for every argument, and leaves memory as it was. -/
import Derived.Test.YtfabgiapekfgcaaSimfsNilOf
import Derived.Test.YtfabgiapekfgcaaFsNilD
namespace Go.Proofs.Ytfabgiapekfgcaa
open Go.RowKit
theorem simfsNil_walk (c0 : CallV) (w : World) (_w0 : c0.Ok w) :
    Calls Try.prog 7 #[.agg c0.cells.toArray] w fun e w' => e = .returned (.bool true) ∧ Below w.heap.size w w' := simfsNil_of fsOk fsNil c0 w
end Go.Proofs.Ytfabgiapekfgcaa
