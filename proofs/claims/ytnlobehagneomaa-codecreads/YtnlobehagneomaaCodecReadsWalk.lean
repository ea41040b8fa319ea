/- staddlelaw01.CodecReads returns true at any bytes and any size, and leaves memory as it was. -/
import Derived.Test.YtnlobehagneomaaAwake
import Derived.Test.YtnlobehagneomaaArgs
import Derived.Test.YtnlobehagneomaaRUv
import Derived.Test.YtnlobehagneomaaFx
import Derived.Test.YtnlobehagneomaaRFx
namespace Go.Proofs.Ytnlobehagneomaa
open Go.RowKit
set_option maxRecDepth 100000 in
set_option maxHeartbeats 1000000 in
theorem codecReads_walk (a0 : Option Addr) (len0 cap0 : Nat) (b0 : List UInt8) (a1 : Int) (w : World) (w0 : BsAt w a0 len0 cap0 b0) (_e0 : cap0 ≤ 140737488351232) (_w1 : (Lit.int .i64 a1).wf = true) :
    Calls Try.prog 5 #[.slice a0 len0 cap0, .int .i64 a1] w fun e w' => e = .returned (.bool true) ∧ Below w.heap.size w w' := by

  go_enter Try.func5, Try.ntmps5
  go_wp2_with (go_at_call 9; refine (awake_any _).mono ?_; rintro e w1 ⟨rfl, hb1⟩)
  have HB : Hid (BsAt w1 a0 len0 cap0 b0) := w0.below (Nat.le_refl _) hb1
  clear w0
  have HB1 : Hid (Below w.heap.size w w1) := hb1
  clear hb1
  go_wp2_with (first
    | (go_at_call 18; refine (uvarint_any _ _ _ b0 _ HB.out).mono ?_; rintro e w2 ⟨rfl, rfl⟩)
    | (go_at_call 19; refine (ruvarint_any _ _ _ b0 _ HB.out).mono ?_; rintro e w2 ⟨rfl, rfl⟩)
    | (go_at_call 20; refine (fixed_any _ _ _ b0 a1 _ HB.out).mono ?_; rintro e w2 ⟨rfl, rfl⟩)
    | (go_at_call 21; refine (rfixed_any _ _ _ b0 a1 _ HB.out).mono ?_; rintro e w2 ⟨rfl, rfl⟩)
    | (go_at_call 22; refine (text_any _ _ _ b0 _ HB.out).mono ?_; rintro e w2 ⟨rfl, rfl⟩)
    | (go_at_call 23; refine (rtext_any _ _ _ b0 _ HB.out).mono ?_; rintro e w2 ⟨rfl, rfl⟩))
  go_ret
  exact ⟨ret1 (by simp), HB1.out⟩
end Go.Proofs.Ytnlobehagneomaa
