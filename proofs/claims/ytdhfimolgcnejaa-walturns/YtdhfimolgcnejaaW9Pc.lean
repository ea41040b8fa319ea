/- The contracts of wal's small functions: what is left in a block, a piece's kind, its sum, its bytes. -/
import Derived.Test.YtdhfimolgcnejaaW9Plain
import Derived.Test.YtdhfimolgcnejaaSums
import Derived.Test.YtdhfimolgcnejaaPutNilFx
import Derived.Lib.AppendZeros
import Derived.Handy
namespace Go.Proofs.Ytdhfimolgcnejaa
open Go.RowKit

theorem crc_lt (bs : List UInt8) : crc bs < 4294967296 := xor32 (by omega) (crcGo_lt bs (by omega))
theorem sumN_lt (k : UInt8) (b : List UInt8) : sumN k b < 4294967296 := maskN_lt _
/-- A literal of one byte, of the call's own. -/
theorem OwnB.oneLit (w : World) (x : Int) (k : UInt8) (hx : x = (k.toNat : Int)) (B : Nat) (hB : B ≤ w.heap.size) : OwnB (w.alloc (.cells #[.int .u8 x] 5)) B (some ⟨w.heap.size, 0, none⟩) 1 1 [k] := by
  subst hx
  exact ⟨rfl, by simp [cellsB], .inr ⟨w.heap.size, 1, _, rfl, hB, heap_alloc_new w _, Nat.le_refl _, by unfold maxLen; omega, rfl, by simp [cellsB]⟩⟩
/-- Noughts, appended to nothing. -/
theorem wpList_zeros (w : World) {ops : Array Oper} {rest : List Oper} {o : Oper} {a : Act} {Q : Exit → Act → World → Prop} (hgd : o.guard = none) (s x : Operand)
    (ho : o.op = .call { callee := .builtin .append, args := #[s, x], argTypes := #[23, 3] })
    (B n : Nat) (hs : a.eval s = .slice none 0 0) (hx : a.eval x = .int .i64 (n : Int)) (h0 : 0 < n) (hl : n ≤ 4096) (hB : B ≤ w.heap.size)
    (h : ∀ a' c' w', OwnB w' B a' n c' (List.replicate n 0) → Below w.heap.size w w' → wpList Try.prog ops Q rest (a.put o.dst (.slice a' n c')) w') :
    wpList Try.prog ops Q (o :: rest) a w := by
  obtain ⟨i, hi, hz0, hz1, hz2⟩ := info_parts infoU8
  have hge := grownCap_ge w n 0 5
  have hr := Lib.run_append_nil_zeros (P := Try.prog) w 23 3 o.type 5 i (.int .u8 0) .i64 .i64 Try.underlying23 Try.underlying3 hi hz0 n h0 (by rw [hz1]; omega) (by omega) (by rw [hz2]; omega)
  refine Lib.wpList_append_run w hgd s x _ _ ho _ _ hs hx _ _ hr (h _ _ _ ⟨by simp, by simp [cellsB], .inr ⟨w.heap.size, _, _, rfl, hB, heap_alloc_new w.drew _, hge, grownCap_le_maxLen w n 0 _ (by unfold maxLen; omega), ?_, ?_⟩⟩ (((Below.refl _ w).drew).alloc (Nat.le_refl _) _))
  · simp [size_zeroCells, Value.cells]
    omega
  · simp [Builtin.zeroCells, Value.cells, cellsB, Nat.mod_one, List.map_const']

set_option maxHeartbeats 400000 in
theorem left_any (p : Nat) (w : World) (hp : p ≤ 9223372036854775807) : Calls Try.prog 16 #[.int .i64 (p : Int)] w fun e w' => e = .returned (.int .i64 (leftN p : Nat)) ∧ w' = w := by
  go_enter Try.func16, Try.ntmps16
  go_wp2
  go_ret
  exact ⟨ret1 (congrArg (Value.int .i64) (by unfold leftN; omega)), rfl⟩
set_option maxHeartbeats 400000 in
theorem kindOf_any (f l : Bool) (w : World) : Calls Try.prog 18 #[.bool f, .bool l] w fun e w' => e = .returned (.int .u8 ((kindN f l).toNat : Nat)) ∧ w' = w := by
  cases f <;> cases l
  all_goals
    go_enter Try.func18, Try.ntmps18
    go_wp2
    go_ret
    exact ⟨rfl, rfl⟩
set_option maxRecDepth 100000 in
set_option maxHeartbeats 400000 in
theorem sumOf_any (k : UInt8) (a : Option Addr) (len cap : Nat) (b : List UInt8) (w : World) (h : BsAt w a len cap b) (hl : len ≤ 140737488355000) :
    Calls Try.prog 27 #[.int .u8 (k.toNat : Int), .slice a len cap] w fun e w' => e = .returned (.int .u64 (sumN k b : Nat)) ∧ Below w.heap.size w w' := by
  have hcl := crc_lt (k :: b)
  have HL : Hid (crc (k :: b) < 4294967296) := hcl
  have HS : Hid (sumN k b < 4294967296) := sumN_lt k b
  clear hcl
  go_enter Try.func27, Try.ntmps27
  go_wp2_with (first
    | (at_builtin; refine wpList_app _ rfl _ _ rfl w.heap.size _ 1 1 [k] rfl (OwnB.oneLit w _ k rfl _ (Nat.le_refl _)) _ _ _ b rfl (h.alloc _) (by omega) (by simp) ?_))
  intro a1 c1 w1 ho1 hb1 _
  have HB1 : Hid (Below w.heap.size w w1) := ((Below.refl _ _).alloc (Nat.le_refl _) _).trans hb1
  have HO1 : Hid (BsAt w1 a1 (1 + len) c1 (k :: b)) := ho1.bs
  clear hb1 ho1
  go_wp2_with (go_at_call 35; refine (crc_any _ _ _ (k :: b) _ HO1.out).mono ?_; rintro e w2 ⟨rfl, hb2⟩)
  have HB2 : Hid (Below w.heap.size w w2) := HB1.out.trans (hb2.mono HB1.out.size)
  clear hb2
  go_wp2_with (go_at_call 34; refine (mask_any _ _ HL.out).mono ?_; rintro e w3 ⟨rfl, rfl⟩)
  have hs := HS.out
  unfold sumN at hs
  go_wp2
  go_ret
  exact ⟨ret1 (congrArg (Value.int .u64) (by unfold sumN; simp [IntKind.wrap, IntKind.bits, IntKind.signed]; omega)), HB2.out⟩
theorem fx4 (n : Nat) : fxPut n 4 = fxEnc n 4 := by unfold fxPut; rw [if_neg (by omega)]; rfl
theorem fx2 (n : Nat) : fxPut n 2 = fxEnc n 2 := by unfold fxPut; rw [if_neg (by omega)]; rfl
theorem putFx4 (n : Nat) (w : World) (hn : n < 18446744073709551616) :
    Calls Try.prog 26 #[.slice none 0 0, .int .u64 (n : Int), .int .i64 4] w fun e w' => ∃ a' c', e = .returned (.slice a' 4 c') ∧ OwnB w' w.heap.size a' 4 c' (fxEnc n 4) ∧ Below w.heap.size w w' := by
  refine (putFixed_any none 0 0 [] n 4 w (BsAt.nil w) hn (by omega)).mono ?_
  rintro e w' ⟨a', c', rfl, ho, hb⟩
  rw [fx4, fxEnc_length, Nat.zero_add] at ho ⊢
  exact ⟨a', c', rfl, ho, hb⟩
theorem putFx2 (n : Nat) (w : World) (hn : n < 18446744073709551616) :
    Calls Try.prog 26 #[.slice none 0 0, .int .u64 (n : Int), .int .i64 2] w fun e w' => ∃ a' c', e = .returned (.slice a' 2 c') ∧ OwnB w' w.heap.size a' 2 c' (fxEnc n 2) ∧ Below w.heap.size w w' := by
  refine (putFixed_any none 0 0 [] n 2 w (BsAt.nil w) hn (by omega)).mono ?_
  rintro e w' ⟨a', c', rfl, ho, hb⟩
  rw [fx2, fxEnc_length, Nat.zero_add] at ho ⊢
  exact ⟨a', c', rfl, ho, hb⟩
set_option maxRecDepth 100000 in
set_option maxHeartbeats 400000 in
theorem pieceBytes_any (k : UInt8) (a : Option Addr) (len cap : Nat) (b : List UInt8) (w : World) (h : BsAt w a len cap b) (hl : len ≤ 140737488355000) :
    Calls Try.prog 17 #[.int .u8 (k.toNat : Int), .slice a len cap] w fun e w' => ∃ a' c', e = .returned (.slice a' (7 + len) c') ∧ OwnB w' w.heap.size a' (7 + len) c' (pcEnc k b) ∧ Below w.heap.size w w' := by
  have hs := sumN_lt k b
  have hsz := h.size
  have HS : Hid (sumN k b < 18446744073709551616) := by unfold Hid; omega
  have HZ : Hid (b.length = len) := hsz
  clear hs hsz
  go_enter Try.func17, Try.ntmps17
  go_wp2_with (go_at_call 27; refine (sumOf_any k _ _ _ b _ h hl).mono ?_; rintro e w1 ⟨rfl, hb1⟩)
  have HB1 : Hid (Below w.heap.size w w1) := hb1
  clear hb1
  go_wp2_with fail
  refine (putFx4 (sumN k b) _ HS.out).mono ?_
  rintro e w2 ⟨a2, c2, rfl, ho2, hb2⟩
  have HO2 : Hid (OwnB w2 w.heap.size a2 4 c2 (fxEnc (sumN k b) 4)) := ho2.mono HB1.out.size
  have HB2 : Hid (Below w.heap.size w w2) := HB1.out.trans (hb2.mono HB1.out.size)
  clear ho2 hb2
  go_wp2_with fail
  refine (putFx2 len _ (by omega)).mono ?_
  rintro e w3 ⟨a3, c3, rfl, ho3, hb3⟩
  have HO3 : Hid (OwnB w3 w.heap.size a2 4 c2 (fxEnc (sumN k b) 4)) := HO2.out.below hb3
  have HS3 : Hid (BsAt w3 a3 2 c3 (fxEnc len 2)) := ho3.bs
  have HB3 : Hid (Below w.heap.size w w3) := HB2.out.trans (hb3.mono HB2.out.size)
  clear ho3 hb3
  go_wp2_with (first
    | (at_builtin; refine wpList_app _ rfl _ _ rfl w.heap.size _ _ _ (fxEnc (sumN k b) 4) rfl HO3.out _ _ _ (fxEnc len 2) rfl HS3.out (by omega) HB3.out.size ?_))
  intro a4 c4 w4 ho4 hb4 _
  have HO4 : Hid (OwnB w4 w.heap.size a4 (4 + 2) c4 (fxEnc (sumN k b) 4 ++ fxEnc len 2)) := ho4
  have HB4 : Hid (Below w.heap.size w w4) := HB3.out.trans hb4
  clear ho4 hb4
  go_wp2_with (first
    | (at_builtin; refine wpList_app _ rfl _ _ rfl w.heap.size _ _ _ (fxEnc (sumN k b) 4 ++ fxEnc len 2) rfl (HO4.out.alloc _) _ _ _ [k] rfl (BsAt.one rfl) (by omega) (by have := HB4.out.size; simp; omega) ?_))
  intro a5 c5 w5 ho5 hb5 _
  have HO5 : Hid (OwnB w5 w.heap.size a5 (4 + 2 + 1) c5 (fxEnc (sumN k b) 4 ++ fxEnc len 2 ++ [k])) := ho5
  have HB5 : Hid (Below w.heap.size w w5) := (HB4.out.alloc HB4.out.size _).trans hb5
  clear ho5 hb5
  go_wp2_with (first
    | (at_builtin; refine wpList_app _ rfl _ _ rfl w.heap.size _ _ _ (fxEnc (sumN k b) 4 ++ fxEnc len 2 ++ [k]) rfl HO5.out _ _ _ b rfl (h.below (Nat.le_refl _) HB5.out) (by omega) HB5.out.size ?_))
  intro a6 c6 w6 ho6 hb6 _
  go_wp2
  go_ret
  refine ⟨a6, c6, ret1 rfl, ?_, HB5.out.trans hb6⟩
  unfold pcEnc
  rw [HZ.out]
  simpa using ho6
end Go.Proofs.Ytdhfimolgcnejaa
