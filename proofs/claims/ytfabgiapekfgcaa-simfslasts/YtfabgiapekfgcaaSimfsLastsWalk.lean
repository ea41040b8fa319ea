/- staddlelaw04.SimfsLasts returns true, for every argument, and leaves memory as it was. -/
import Derived.Test.YtfabgiapekfgcaaSimfsLastsOf
import Derived.Test.YtfabgiapekfgcaaFsOkD
namespace Go.Proofs.Ytfabgiapekfgcaa
open Go.RowKit
theorem simfsLasts_walk (a0 : Option Addr) (len0 cap0 : Nat) (b0 : List UInt8) (a1 : Option Addr) (len1 cap1 : Nat) (b1 : List UInt8) (a2 : Option Addr) (len2 cap2 : Nat) (b2 : List Int) (a3 : Option Addr) (len3 cap3 : Nat) (b3 : List Int) (w : World) (w0 : BsAt w a0 len0 cap0 b0) (_e0 : cap0 ≤ 140737488351232) (w1 : BsAt w a1 len1 cap1 b1) (_e1 : cap1 ≤ 140737488351232) (w2 : IsAt w a2 len2 cap2 b2) (w3 : IsAt w a3 len3 cap3 b3) :
    Calls Try.prog 5 #[.slice a0 len0 cap0, .slice a1 len1 cap1, .slice a2 len2 cap2, .slice a3 len3 cap3] w fun e w' => e = .returned (.bool true) ∧ Below w.heap.size w w' := simfsLasts_of fsOk a0 len0 cap0 b0 a1 len1 cap1 b1 a2 len2 cap2 b2 a3 len3 cap3 b3 w w0 w1 w2 w3
end Go.Proofs.Ytfabgiapekfgcaa
