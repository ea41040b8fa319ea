/- staddlelaw01.CodecLays returns true, for arguments of bulk at most 1048576, and leaves memory as it was. -/
import Derived.Test.YtnlobehagneomaaAwake
import Derived.Test.YtnlobehagneomaaArgs
import Derived.Test.YtnlobehagneomaaRPut
import Derived.Test.YtnlobehagneomaaLent
import Derived.Test.YtnlobehagneomaaPutFx
import Derived.Test.YtnlobehagneomaaPutTx
import Derived.Deep.RegionWith
import Derived.Deep.DeepCutAuto
namespace Go.Proofs.Ytnlobehagneomaa
open Go.RowKit
set_option maxRecDepth 100000 in
set_option maxHeartbeats 1000000 in
theorem codecLays_walk (a0 : Option Addr) (len0 cap0 : Nat) (b0 : List UInt8) (a1 : Int) (a2 : Int) (s3 : ByteArray) (w : World) (w0 : BsAt w a0 len0 cap0 b0) (e0 : cap0 ≤ 1048576) (w1 : (Lit.int .u64 a1).wf = true) (_w2 : (Lit.int .i64 a2).wf = true) (e3 : s3.size ≤ 1048576) :
    Calls Try.prog 4 #[.slice a0 len0 cap0, .int .u64 a1, .int .i64 a2, .string s3] w fun e w' => e = .returned (.bool true) ∧ Below w.heap.size w w' := by
  obtain ⟨n, rfl, hn⟩ : ∃ n : Nat, a1 = (n : Int) ∧ n < 18446744073709551616 := by
    simp [Lit.wf, IntKind.min, IntKind.max, IntKind.bits, IntKind.signed] at w1
    exact ⟨a1.toNat, by omega, by omega⟩
  clear w1
  have hle := w0.le
  have hs0 := w0.size
  have HB0 : Hid (BsAt w a0 len0 cap0 b0) := w0
  have HS0 : Hid (b0.length = len0) := hs0
  clear w0 hs0
  go_enter Try.func4, Try.ntmps4
  go_wp2_with (go_at_call 9; refine (awake_any _).mono ?_; rintro e w1 ⟨rfl, hb1⟩)
  have HB1 : Hid (Below w.heap.size w w1) := hb1
  clear hb1
  refine (lent_any _ _ _ b0 _ (HB0.out.below (Nat.le_refl _) HB1.out) (by omega)).mono ?_
  rintro e w2 ⟨g, cg, rfl, hbG, hb2⟩
  have HG2 : Hid (BsAt w2 (some ⟨g, 0, none⟩) (len0 + 12) cg (b0 ++ pad12)) := hbG
  have HB2 : Hid (Below w.heap.size w w2) := HB1.out.trans (hb2.mono HB1.out.size)
  clear hbG hb2
  have HL2 : Hid (BsAt w2 (some ⟨g, 0, none⟩) len0 cg b0) := by have := HG2.out.first; rwa [HS0.out] at this
  go_wp2_with fail
  refine (putUvarint_any _ _ _ b0 n _ HL2.out hn (by omega)).mono ?_
  rintro e w3 ⟨aX, cX, rfl, hoX, hb3⟩
  have HB3 : Hid (Below w2.heap.size w2 w3) := hb3
  have HX3 : Hid (BsAt w3 aX (len0 + (uvEnc n).length) cX (b0 ++ uvEnc n)) := hoX.bs
  clear hb3 hoX
  go_wp2_with fail
  refine (putFixed_any _ _ _ b0 n a2 _ (HL2.out.below (Nat.le_refl _) HB3.out) hn (by omega)).mono ?_
  rintro e w4 ⟨aY, cY, rfl, hoY, hb4⟩
  have HB4 : Hid (Below w3.heap.size w3 w4) := hb4
  have HY4 : Hid (BsAt w4 aY (len0 + (fxPut n a2).length) cY (b0 ++ fxPut n a2)) := hoY.bs
  clear hb4 hoY
  go_wp2_with fail
  refine (putText_any _ _ _ b0 s3 _ ((HL2.out.below (Nat.le_refl _) HB3.out).below (Nat.le_refl _) HB4.out) (by omega)).mono ?_
  rintro e w5 ⟨aZ, cZ, rfl, hoZ, hb5⟩
  have HB5 : Hid (Below w4.heap.size w4 w5) := hb5
  have HZ5 : Hid (BsAt w5 aZ (len0 + (txtPut s3.data.toList).length) cZ (b0 ++ txtPut s3.data.toList)) := hoZ.bs
  have HX5 : Hid (BsAt w5 aX (len0 + (uvEnc n).length) cX (b0 ++ uvEnc n)) := (HX3.out.below (Nat.le_refl _) HB4.out).below (Nat.le_refl _) hb5
  have HY5 : Hid (BsAt w5 aY (len0 + (fxPut n a2).length) cY (b0 ++ fxPut n a2)) := HY4.out.below (Nat.le_refl _) hb5
  have HG5 : Hid (BsAt w5 (some ⟨g, 0, none⟩) (len0 + 12) cg (b0 ++ pad12)) := ((HG2.out.below (Nat.le_refl _) HB3.out).below (Nat.le_refl _) HB4.out).below (Nat.le_refl _) hb5
  have HW5 : Hid (Below w.heap.size w w5) := ((HB2.out.trans (HB3.out.mono HB2.out.size)).trans (HB4.out.mono (Nat.le_trans HB2.out.size HB3.out.size))).trans (hb5.mono (Nat.le_trans (Nat.le_trans HB2.out.size HB3.out.size) HB4.out.size))
  clear hb5 hoZ HB5 HB4 HB3 HB2 HX3 HY4 HG2 HL2
  go_wp2_with fail
  refine (held_any _ _ _ g _ b0 _ (HB0.out.below (Nat.le_refl _) HW5.out) (by omega) HG5.out).mono ?_
  rintro e w6 ⟨rfl, rfl⟩
  go_upto_region 7 with fail
  go_cut [15] (fun s wc => s = .bool true ∧ Hid (Below w.heap.size w wc) ∧ Hid (BsAt wc aY (len0 + (fxPut n a2).length) cY (b0 ++ fxPut n a2)) ∧ Hid (BsAt wc aZ (len0 + (txtPut s3.data.toList).length) cZ (b0 ++ txtPut s3.data.toList)))
  case first =>
    have hcX := conv_of HX5.out.drew
    go_region_with (go_at_call 15; refine (rputUvarint_any _ _ _ b0 n _ (HB0.out.below (Nat.le_refl _) HW5.out.drew) hn (by omega)).mono ?_; rintro e w7 ⟨aR, cR, rfl, hoR, hb7⟩; have hcR := conv_of hoR.bs; have hcX7 := conv_of (HX5.out.drew.below (Nat.le_refl _) hb7))
    all_goals
      go_wp2_with fail
      go_meet
      exact ⟨rfl, HW5.out.drew.trans (hb7.mono HW5.out.size), HY5.out.drew.below (Nat.le_refl _) hb7, HZ5.out.drew.below (Nat.le_refl _) hb7⟩
  case rest =>
    obtain ⟨rfl, HWc, HYc, HZc⟩ := hcut
    clear HX5 HY5 HZ5 HG5 HW5
    go_upto_region 8 with fail
    go_cut [16] (fun s wc => s = .bool true ∧ Hid (Below w.heap.size w wc) ∧ Hid (BsAt wc aZ (len0 + (txtPut s3.data.toList).length) cZ (b0 ++ txtPut s3.data.toList)))
    case first =>
      have hcY := conv_of HYc.out.drew
      go_region_with (go_at_call 16; refine (rputFixed_any _ _ _ b0 n a2 _ (HB0.out.below (Nat.le_refl _) HWc.out.drew) hn (by omega)).mono ?_; rintro e w8 ⟨aS, cS, rfl, hoS, hb8⟩; have hcS := conv_of hoS.bs; have hcY8 := conv_of (HYc.out.drew.below (Nat.le_refl _) hb8))
      all_goals
        go_wp2_with fail
        go_meet
        exact ⟨rfl, HWc.out.drew.trans (hb8.mono HWc.out.size), HZc.out.drew.below (Nat.le_refl _) hb8⟩
    case rest =>
      obtain ⟨rfl, HWd, HZd⟩ := hcut
      clear HWc HYc HZc
      go_upto_region 9 with fail
      go_cut [17] (fun s wc => s = .bool true ∧ Hid (Below w.heap.size w wc))
      case first =>
        have hcZ := conv_of HZd.out.drew
        go_region_with (go_at_call 17; refine (rputText_any _ _ _ b0 s3 _ (HB0.out.below (Nat.le_refl _) HWd.out.drew) (by omega)).mono ?_; rintro e w9 ⟨aT, cT, rfl, hoT, hb9⟩; have hcT := conv_of hoT.bs; have hcZ9 := conv_of (HZd.out.drew.below (Nat.le_refl _) hb9))
        all_goals
          go_wp2_with fail
          go_meet
          exact ⟨rfl, HWd.out.drew.trans (hb9.mono HWd.out.size)⟩
      case rest =>
        obtain ⟨rfl, HWe⟩ := hcut
        clear HWd HZd
        go_wp2
        go_ret
        exact ⟨ret1 (by simp), HWe.out⟩
end Go.Proofs.Ytnlobehagneomaa
