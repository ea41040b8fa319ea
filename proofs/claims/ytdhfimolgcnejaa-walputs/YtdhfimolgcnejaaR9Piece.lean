/- The contract of the document's own Put: what it lays, in new memory; or its error. -/
import Derived.Test.YtdhfimolgcnejaaW9Put
import Derived.Test.YtdhfimolgcnejaaRPutFx
namespace Go.Proofs.Ytdhfimolgcnejaa
open Go.RowKit

theorem rputFx4 (n : Nat) (w : World) (hn : n < 18446744073709551616) :
    Calls Try.prog 28 #[.slice none 0 0, .int .u64 (n : Int), .int .i64 4] w fun e w' => ∃ a' c', e = .returned (.slice a' 4 c') ∧ OwnB w' w.heap.size a' 4 c' (fxEnc n 4) ∧ Below w.heap.size w w' := by
  refine (rputFixed_any none 0 0 [] n 4 w (BsAt.nil w) hn (by omega)).mono ?_
  rintro e w' ⟨a', c', rfl, ho, hb⟩
  rw [fx4, fxEnc_length, Nat.zero_add] at ho ⊢
  exact ⟨a', c', rfl, ho, hb⟩
theorem rputFx2 (a : Option Addr) (len cap : Nat) (bs : List UInt8) (n : Nat) (w : World) (h : BsAt w a len cap bs) (hn : n < 18446744073709551616) (hl : len ≤ 1000) :
    Calls Try.prog 28 #[.slice a len cap, .int .u64 (n : Int), .int .i64 2] w fun e w' => ∃ a' c', e = .returned (.slice a' (len + 2) c') ∧ OwnB w' w.heap.size a' (len + 2) c' (bs ++ fxEnc n 2) ∧ Below w.heap.size w w' := by
  refine (rputFixed_any a len cap bs n 2 w h hn (by omega)).mono ?_
  rintro e w' ⟨a', c', rfl, ho, hb⟩
  rw [fx2, fxEnc_length] at ho ⊢
  exact ⟨a', c', rfl, ho, hb⟩
/-- A piece's sum, as the document's own functions reckon it. -/
theorem wrap_u64 (n : Nat) (h : n < 4294967296) : IntKind.u64.wrap (n : Int) = (n : Int) := by simp [IntKind.wrap, IntKind.bits, IntKind.signed]; omega
set_option maxRecDepth 100000 in
set_option maxHeartbeats 400000 in
theorem rpiece_any (k : UInt8) (a : Option Addr) (len cap : Nat) (b : List UInt8) (w : World) (h : BsAt w a len cap b) (hl : len ≤ 140737488355000) :
    Calls Try.prog 19 #[.int .u8 (k.toNat : Int), .slice a len cap] w fun e w' => ∃ a' c', e = .returned (.slice a' (7 + len) c') ∧ OwnB w' w.heap.size a' (7 + len) c' (pcEnc k b) ∧ Below w.heap.size w w' := by
  have HZ : Hid (b.length = len) := h.size
  have HL : Hid (crc (k :: b) < 4294967296) := crc_lt _
  have hs := maskN_lt (crc (k :: b))
  go_enter Try.func19, Try.ntmps19
  go_wp2_with (first
    | (at_builtin; refine wpList_app _ rfl _ _ rfl w.heap.size _ 1 1 [k] rfl (OwnB.oneLit w _ k rfl _ (Nat.le_refl _)) _ _ _ b rfl (h.alloc _) (by omega) (by simp) ?_))
  intro a1 c1 w1 ho1 hb1 _
  have HB1 : Hid (Below w.heap.size w w1) := ((Below.refl _ _).alloc (Nat.le_refl _) _).trans hb1
  have HO1 : Hid (BsAt w1 a1 (1 + len) c1 (k :: b)) := ho1.bs
  clear hb1 ho1
  go_wp2_with (go_at_call 25; refine (rcrc_any _ _ _ (k :: b) _ HO1.out).mono ?_; rintro e w2 ⟨rfl, rfl⟩)
  go_wp2_with (go_at_call 24; refine (rmask_any _ _ HL.out).mono ?_; rintro e w3 ⟨rfl, rfl⟩)
  have hcv := wrap_u64 _ hs
  generalize hm : maskN (crc (k :: b)) = m at hs hcv ⊢
  have HM : Hid (maskN (crc (k :: b)) = m) := hm
  clear hm
  go_wp2_with fail
  refine (rputFx4 m _ (by omega)).mono ?_
  rintro e w4 ⟨a4, c4, rfl, ho4, hb4⟩
  have HO4 : Hid (BsAt w4 a4 4 c4 (fxEnc m 4)) := ho4.bs
  have HB4 : Hid (Below w.heap.size w w4) := HB1.out.trans (hb4.mono HB1.out.size)
  clear ho4 hb4
  go_wp2_with fail
  refine (rputFx2 _ _ _ _ len _ HO4.out (by omega) (by omega)).mono ?_
  rintro e w5 ⟨a5, c5, rfl, ho5, hb5⟩
  have HO5 : Hid (OwnB w5 w.heap.size a5 (4 + 2) c5 (fxEnc m 4 ++ fxEnc len 2)) := ho5.mono HB4.out.size
  have HB5 : Hid (Below w.heap.size w w5) := HB4.out.trans (hb5.mono HB4.out.size)
  clear ho5 hb5
  go_wp2_with (first
    | (at_builtin; refine wpList_app _ rfl _ _ rfl w.heap.size _ _ _ (fxEnc m 4 ++ fxEnc len 2) rfl (HO5.out.alloc _) _ _ _ [k] rfl (BsAt.one rfl) (by omega) (by have := HB5.out.size; simp; omega) ?_))
  intro a6 c6 w6 ho6 hb6 _
  have HO6 : Hid (OwnB w6 w.heap.size a6 (4 + 2 + 1) c6 (fxEnc m 4 ++ fxEnc len 2 ++ [k])) := ho6
  have HB6 : Hid (Below w.heap.size w w6) := (HB5.out.alloc HB5.out.size _).trans hb6
  clear ho6 hb6
  go_wp2_with (first
    | (at_builtin; refine wpList_app _ rfl _ _ rfl w.heap.size _ _ _ (fxEnc m 4 ++ fxEnc len 2 ++ [k]) rfl HO6.out _ _ _ b rfl (h.below (Nat.le_refl _) HB6.out) (by omega) HB6.out.size ?_))
  intro a7 c7 w7 ho7 hb7 _
  go_wp2
  go_ret
  refine ⟨a7, c7, ret1 rfl, ?_, HB6.out.trans hb7⟩
  unfold pcEnc sumN
  rw [HZ.out, HM.out]
  simpa using ho7
end Go.Proofs.Ytdhfimolgcnejaa
