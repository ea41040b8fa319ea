/- The walk of MergeHolds. -/
import Derived.Test.YtfijibengmgegaaM16WHolds
import Derived.Test.YtfijibengmgegaaQa09
namespace Go.Proofs.Ytfijibengmgegaa
open Go.RowKit
theorem mergeHolds_walk (a : Option Addr) (n c : Nat) (L : List (List KV)) (w : World) (h : LsAt w a n c L) :
    Calls Try.prog 6 #[.slice a n c] w fun e w' => e = .returned (.bool true) ∧ Below w.heap.size w w' := mergeHolds_of mg16 a n c L w h
end Go.Proofs.Ytfijibengmgegaa
