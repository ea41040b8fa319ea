/- staddlelaw03.BatchLays returns true, for every argument, and leaves memory as it was. -/
import Derived.Test.YtohhdbmkbfehfaaAwake3
import Derived.Test.YtohhdbmkbfehfaaBChk
import Derived.Test.YtohhdbmkbfehfaaRBEnc
import Derived.Test.YtohhdbmkbfehfaaSame
import Derived.Test.YtohhdbmkbfehfaaOpsOwn
namespace Go.Proofs.Ytohhdbmkbfehfaa
open Go.RowKit
set_option maxRecDepth 100000 in
set_option maxHeartbeats 1000000 in
theorem batchLays_walk (a0 : Int) (a1 : Option Addr) (len1 cap1 : Nat) (b1 : List Opn) (w : World) (w0 : (Lit.int .u64 a0).wf = true) (w1 : OpsAt w a1 len1 cap1 b1) (_f1 : ∀ o ∈ b1, (Lit.int .i64 o.kind).wf = true ∧ o.key.size ≤ maxLen ∧ o.val.size ≤ maxLen) (e1 : cap1 * 40 ≤ 140737488351232) :
    Calls Try.prog 4 #[.int .u64 a0, .slice a1 len1 cap1] w fun e w' => e = .returned (.bool true) ∧ Below w.heap.size w w' := by
  obtain ⟨q, rfl, hq⟩ : ∃ n : Nat, a0 = (n : Int) ∧ n < 18446744073709551616 := by
    simp [Lit.wf, IntKind.min, IntKind.max, IntKind.bits, IntKind.signed] at w0
    exact ⟨a0.toNat, by omega, by omega⟩
  clear w0
  have hle := w1.le
  have H1 : Hid (OpsAt w a1 len1 cap1 b1) := w1
  have henc := fun W a n c (h : OpsAt W a n c b1) => bencode_any q a n c b1 W hq h
  have hrenc := fun W a n c (h : OpsAt W a n c b1) => rbencode_any q a n c b1 W hq h
  have hchk := fun W a n c (h : OpsAt W a n c b1) => bcheck_any q a n c b1 W hq h
  have hrchk := fun W a n c (h : OpsAt W a n c b1) => rbcheck_any q a n c b1 W hq h
  generalize bEnc q b1 = X at henc hrenc
  generalize bchk q b1 = ck at henc hrenc hchk hrchk
  have HENC : Hid (∀ W a n c, _) := henc
  have HRENC : Hid (∀ W a n c, _) := hrenc
  have HCHK : Hid (∀ W a n c, _) := hchk
  have HRCHK : Hid (∀ W a n c, _) := hrchk
  clear w1 henc hrenc hchk hrchk
  go_enter Try.func4, Try.ntmps4
  go_wp2_with (first
    | (go_at_call 9; refine (awake_any _).mono ?_; rintro e v1 ⟨rfl, hb1⟩)
    | (at_builtin; refine wpList_appO _ rfl _ _ rfl v1.heap.size _ 0 0 [] rfl (OwnO.made v1) _ _ _ b1 rfl ((H1.out.below (Nat.le_refl _) hb1).alloc _) (by omega) (by simp) ?_))
  intro a2 c2 v2 ho2 hb2
  have HB2 : Hid (Below w.heap.size w v2) := (hb1.trans (((Below.refl _ v1).alloc (Nat.le_refl _) _).mono hb1.size)).trans (hb2.mono hb1.size)
  have HL2 : Hid (OpsAt v2 a2 len1 c2 b1) := by unfold Hid; have := ho2.ops; simpa using this
  clear ho2 hb2 hb1
  go_wp2_with fail
  refine (HENC.out _ _ _ _ HL2.out).mono ?_
  rintro e v3 ⟨aX, cX, rfl, hX, hb3⟩
  have HB3 : Hid (Below w.heap.size w v3) := HB2.out.trans (hb3.mono HB2.out.size)
  have HL3 : Hid (OpsAt v3 a2 len1 c2 b1) := HL2.out.below (Nat.le_refl _) hb3
  have HX3 : Hid (BsAt v3 aX X.length cX X) := hX
  clear hb3 hX HL2 HB2
  go_wp2_with fail
  refine (HRENC.out _ _ _ _ (H1.out.below (Nat.le_refl _) HB3.out)).mono ?_
  rintro e v4 ⟨aY, cY, rfl, hY, hb4⟩
  have HB4 : Hid (Below w.heap.size w v4) := HB3.out.trans (hb4.mono HB3.out.size)
  have HL4 : Hid (OpsAt v4 a2 len1 c2 b1) := HL3.out.below (Nat.le_refl _) hb4
  have HX4 : Hid (BsAt v4 aX X.length cX X) := HX3.out.below (Nat.le_refl _) hb4
  have HY4 : Hid (BsAt v4 aY X.length cY X) := hY
  clear hb4 hY HL3 HB3 HX3
  go_wp2_with fail
  have HS := same_any _ _ _ _ _ _ _ _ _ HL4.out (H1.out.below (Nat.le_refl _) HB4.out)
  rw [show opsEq b1 b1 = true from (opsEq_iff _ _).2 rfl] at HS
  refine HS.mono ?_
  clear HS
  rintro e v5 ⟨rfl, hb5⟩
  have HB5 : Hid (Below w.heap.size w v5) := HB4.out.trans (hb5.mono HB4.out.size)
  have hcX := conv_of (HX4.out.below (Nat.le_refl _) hb5)
  have hcY := conv_of (HY4.out.below (Nat.le_refl _) hb5)
  clear hb5
  go_wp2_with fail
  refine (HCHK.out _ _ _ _ (H1.out.below (Nat.le_refl _) HB5.out)).mono ?_
  rintro e v6 ⟨rfl, hb6⟩
  have HB6 : Hid (Below w.heap.size w v6) := HB5.out.trans (hb6.mono HB5.out.size)
  clear hb6
  go_wp2_with fail
  refine (HRCHK.out _ _ _ _ (H1.out.below (Nat.le_refl _) HB6.out)).mono ?_
  rintro e v7 ⟨rfl, hb7⟩
  have HB7 := HB6.out.trans (hb7.mono HB6.out.size)
  go_wp2_with fail
  go_ret
  exact ⟨ret1 (by simp), HB7⟩
end Go.Proofs.Ytohhdbmkbfehfaa
