/- The walk of MergeOne. -/
import Derived.Test.YtfijibengmgegaaM16WOne
import Derived.Test.YtfijibengmgegaaQa09
namespace Go.Proofs.Ytfijibengmgegaa
open Go.RowKit
theorem mergeOne_walk (a : Option Addr) (n c : Nat) (l : List KV) (cut : Int) (w : World) (h : KsAt w a n c l) (hs : (a = none → c = 0) ∧ ∀ x, a = some x → x.spot = none) (hn : n ≤ 2932031007317) (_hc : (Lit.int .i64 cut).wf = true) :
    Calls Try.prog 8 #[.slice a n c, .int .i64 cut] w fun e w' => e = .returned (.bool true) ∧ Below w.heap.size w w' := mergeOne_of mg16 a n c l cut w h hs.1 hn
end Go.Proofs.Ytfijibengmgegaa
