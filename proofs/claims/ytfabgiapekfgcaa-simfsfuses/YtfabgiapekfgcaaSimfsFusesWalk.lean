/- staddlelaw04.SimfsFuses returns true, for every argument, and leaves memory as it was. -/
import Derived.Test.YtfabgiapekfgcaaSimfsFusesOf
import Derived.Test.YtfabgiapekfgcaaFsOkD
namespace Go.Proofs.Ytfabgiapekfgcaa
open Go.RowKit
theorem wf_int {z : Int} (h : (Lit.int .i64 z).wf = true) : -9223372036854775808 ≤ z ∧ z ≤ 9223372036854775807 := by
  simp [Lit.wf, IntKind.min, IntKind.max, IntKind.bits, IntKind.signed] at h
  omega
theorem simfsFuses_walk (a0 : Int) (a1 : Option Addr) (len1 cap1 : Nat) (b1 : List Int) (a2 : Int) (w : World) (w0 : (Lit.int .i64 a0).wf = true) (w1 : IsAt w a1 len1 cap1 b1) (w2 : (Lit.int .i64 a2).wf = true) :
    Calls Try.prog 8 #[.int .i64 a0, .slice a1 len1 cap1, .int .i64 a2] w fun e w' => e = .returned (.bool true) ∧ Below w.heap.size w w' := simfsFuses_of fsOk a0 a1 len1 cap1 b1 a2 w (wf_int w0) w1 (wf_int w2)
end Go.Proofs.Ytfabgiapekfgcaa
