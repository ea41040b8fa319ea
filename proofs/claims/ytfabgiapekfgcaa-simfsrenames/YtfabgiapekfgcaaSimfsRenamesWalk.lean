/- staddlelaw04.SimfsRenames returns true, for every argument, and leaves memory as it was. -/
import Derived.Test.YtfabgiapekfgcaaSimfsRenamesOf
import Derived.Test.YtfabgiapekfgcaaFsOkD
namespace Go.Proofs.Ytfabgiapekfgcaa
open Go.RowKit
theorem simfsRenames_walk (a0 : Option Addr) (len0 cap0 : Nat) (b0 : List UInt8) (a1 : Option Addr) (len1 cap1 : Nat) (b1 : List UInt8) (a2 : Option Addr) (len2 cap2 : Nat) (b2 : List Int) (w : World) (w0 : BsAt w a0 len0 cap0 b0) (_e0 : cap0 ≤ 140737488351232) (w1 : BsAt w a1 len1 cap1 b1) (_e1 : cap1 ≤ 140737488351232) (w2 : IsAt w a2 len2 cap2 b2) :
    Calls Try.prog 6 #[.slice a0 len0 cap0, .slice a1 len1 cap1, .slice a2 len2 cap2] w fun e w' => e = .returned (.bool true) ∧ Below w.heap.size w w' := simfsRenames_of fsOk a0 len0 cap0 b0 a1 len1 cap1 b1 a2 len2 cap2 b2 w w0 w1 w2
end Go.Proofs.Ytfabgiapekfgcaa
