/- staddlelaw09.WalPuts returns true at any place and any record, and leaves memory as it was. -/
import Derived.Test.YtdhfimolgcnejaaW9Out
namespace Go.Proofs.Ytdhfimolgcnejaa
open Go.RowKit
set_option maxRecDepth 100000 in
set_option maxHeartbeats 1000000 in
theorem walPuts_walk (a0 : Int) (a1 : Option Addr) (len1 cap1 : Nat) (b1 : List UInt8) (w : World) (w0 : (Lit.int .i64 a0).wf = true) (w1 : BsAt w a1 len1 cap1 b1) (e1 : cap1 ≤ 140737488351232) :
    Calls Try.prog 4 #[.int .i64 a0, .slice a1 len1 cap1] w fun e w' => e = .returned (.bool true) ∧ Below w.heap.size w w' := by
  have hle := w1.le
  have hr : a0 ≤ 9223372036854775807 := by
    simp [Lit.wf, IntKind.min, IntKind.max, IntKind.bits, IntKind.signed] at w0
    omega
  clear w0
  obtain ⟨L, HL⟩ : ∃ L, Hid ((putOut a0 b1).1.length = L) := ⟨_, rfl⟩
  obtain ⟨er, HE⟩ : ∃ er, Hid ((putOut a0 b1).2 = er) := ⟨_, rfl⟩
  have HBS : Hid (BsAt w a1 len1 cap1 b1) := w1
  clear w1
  go_enter Try.func4, Try.ntmps4
  go_wp2_with (first
    | (go_at_call 9; refine (awake_any _).mono ?_; rintro e v1 ⟨rfl, hb1⟩)
    | (at_builtin; refine wpList_app0 v1 rfl _ _ rfl rfl _ _ _ b1 rfl (HBS.out.below (Nat.le_refl _) hb1) (by omega) ?_; intro al cl v2 ho2 hb2))
  have HB2 : Hid (Below w.heap.size w v2) := hb1.trans (hb2.mono hb1.size)
  have HO2 : Hid (BsAt v2 al len1 cl b1) := ho2.bs
  clear hb1 hb2 ho2
  refine (put_out a0 hr _ _ _ b1 L er HL.out HE.out _ HO2.out).mono ?_
  rintro e v3 ⟨a3, c3, rfl, hb3, hbel3⟩
  have HB3 : Hid (Below w.heap.size w v3) := HB2.out.trans (hbel3.mono HB2.out.size)
  have HO3 : Hid (BsAt v3 a3 L c3 (putOut a0 b1).1) := hb3
  have HL3 : Hid (BsAt v3 al len1 cl b1) := HO2.out.below (Nat.le_refl _) hbel3
  clear hb3 hbel3
  go_wp2_with fail
  refine (rput_out a0 hr _ _ _ b1 L er HL.out HE.out _ (HBS.out.below (Nat.le_refl _) HB3.out)).mono ?_
  rintro e v4 ⟨a4, c4, rfl, hb4, hbel4⟩
  have s1 := conv_of (HO3.out.below (Nat.le_refl _) hbel4)
  have s2 := conv_of hb4
  have s3 := conv_of (HL3.out.below (Nat.le_refl _) hbel4)
  have HB4 : Hid (Below w.heap.size w v4) := HB3.out.trans (hbel4.mono HB3.out.size)
  have s4 := conv_of (HBS.out.below (Nat.le_refl _) HB4.out)
  clear hb4 hbel4
  go_wp2
  go_ret
  exact ⟨ret1 (by simp), HB4.out⟩
end Go.Proofs.Ytdhfimolgcnejaa
