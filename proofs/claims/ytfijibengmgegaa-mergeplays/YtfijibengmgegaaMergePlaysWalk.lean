/- The walk of MergePlays. -/
import Derived.Test.YtfijibengmgegaaM16WPlays
import Derived.Test.YtfijibengmgegaaQa09
namespace Go.Proofs.Ytfijibengmgegaa
open Go.RowKit
theorem mergePlays_walk (a : Option Addr) (n c : Nat) (L : List (List KV)) (aw : Option Addr) (nw cw : Nat) (ways : List (Int × IK)) (w : World) (h : LsAt w a n c L) (hw : WsAt w aw nw cw ways) (hn : nw ≤ 9223372036854775807) :
    Calls Try.prog 4 #[.slice a n c, .slice aw nw cw] w fun e w' => e = .returned (.bool true) ∧ Below w.heap.size w w' := mergePlays_of mg16 a n c L aw nw cw ways w h hw hn
end Go.Proofs.Ytfijibengmgegaa
