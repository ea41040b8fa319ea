/- The walk of MergeGoes. -/
import Derived.Test.YtfijibengmgegaaM16WGoes
import Derived.Test.YtfijibengmgegaaQa09
namespace Go.Proofs.Ytfijibengmgegaa
open Go.RowKit
theorem mergeGoes_walk (a : Option Addr) (n c : Nat) (L : List (List KV)) (w : World) (h : LsAt w a n c L) :
    Calls Try.prog 5 #[.slice a n c] w fun e w' => e = .returned (.bool true) ∧ Below w.heap.size w w' := mergeGoes_of mg16 a n c L w h
end Go.Proofs.Ytfijibengmgegaa
