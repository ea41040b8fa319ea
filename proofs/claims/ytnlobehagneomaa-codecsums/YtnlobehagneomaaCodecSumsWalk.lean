/- staddlelaw01.CodecSums returns true at any bytes and any number, and leaves memory as it was. -/
import Derived.Test.YtnlobehagneomaaAwake
import Derived.Test.YtnlobehagneomaaArgs
import Derived.Test.YtnlobehagneomaaSums
namespace Go.Proofs.Ytnlobehagneomaa
open Go.RowKit
set_option maxRecDepth 100000 in
set_option maxHeartbeats 1000000 in
theorem codecSums_walk (a0 : Option Addr) (len0 cap0 : Nat) (b0 : List UInt8) (a1 : Int) (w : World) (w0 : BsAt w a0 len0 cap0 b0) (_e0 : cap0 ≤ 140737488351232) (w1 : (Lit.int .u32 a1).wf = true) :
    Calls Try.prog 6 #[.slice a0 len0 cap0, .int .u32 a1] w fun e w' => e = .returned (.bool true) ∧ Below w.heap.size w w' := by
  obtain ⟨n, rfl, hn⟩ : ∃ n : Nat, a1 = (n : Int) ∧ n < 4294967296 := by
    simp [Lit.wf, IntKind.min, IntKind.max, IntKind.bits, IntKind.signed] at w1
    exact ⟨a1.toNat, by omega, by omega⟩
  clear w1
  have e1 := unmask_mask n hn
  have e2 := mask_unmask n hn
  have l1 := maskN_lt n
  have l2 := unmaskN_lt n
  have HB0 : Hid (BsAt w a0 len0 cap0 b0) := w0
  clear w0
  go_enter Try.func6, Try.ntmps6
  go_wp2_with (go_at_call 9; refine (awake_any _).mono ?_; rintro e w1 ⟨rfl, hb1⟩)
  have HB1 : Hid (Below w.heap.size w w1) := hb1
  clear hb1
  go_wp2_with (go_at_call 24; refine (crc_any _ _ _ b0 _ (HB0.out.below (Nat.le_refl _) HB1.out)).mono ?_; rintro e w2 ⟨rfl, hb2⟩)
  have HB2 : Hid (Below w.heap.size w w2) := HB1.out.trans (hb2.mono HB1.out.size)
  clear hb2
  go_wp2_with (first
    | (go_at_call 25; refine (rcrc_any _ _ _ b0 _ (HB0.out.below (Nat.le_refl _) HB2.out)).mono ?_; rintro e w3 ⟨rfl, rfl⟩)
    | (go_at_call 26; refine (mask_any _ _ (by omega)).mono ?_; rintro e w3 ⟨rfl, rfl⟩)
    | (go_at_call 27; refine (rmask_any _ _ (by omega)).mono ?_; rintro e w3 ⟨rfl, rfl⟩)
    | (go_at_call 28; refine (unmask_any _ _ (by omega)).mono ?_; rintro e w3 ⟨rfl, rfl⟩)
    | (go_at_call 29; refine (runmask_any _ _ (by omega)).mono ?_; rintro e w3 ⟨rfl, rfl⟩))
  go_ret
  exact ⟨ret1 (by simp), HB2.out⟩
end Go.Proofs.Ytnlobehagneomaa
