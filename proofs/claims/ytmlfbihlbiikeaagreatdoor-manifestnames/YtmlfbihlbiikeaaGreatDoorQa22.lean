/- The contracts of the document's own check sum, and of both pairs of masks. -/
import Derived.Test.YtmlfbihlbiikeaaGreatDoorQa21
import Derived.Test.YtmlfbihlbiikeaaGreatDoorQa08
import Derived.Test.YtmlfbihlbiikeaaGreatDoorQa17
import Derived.Test.YtmlfbihlbiikeaaGreatDoorQa15
import Derived.Lib.AppendZeros
import Derived.Handy
import Derived.Test.YtmlfbihlbiikeaaGreatDoorQa14
import Derived.Deep.RegionLaw
import Derived.Maps.AppendAt
import Derived.Test.YtmlfbihlbiikeaaGreatDoorQa01
import Derived.Test.YtmlfbihlbiikeaaGreatDoorQa00
import Derived.Test.YtmlfbihlbiikeaaGreatDoorQa12
import Derived.Test.YtmlfbihlbiikeaaGreatDoorQa13
import Derived.Test.YtmlfbihlbiikeaaGreatDoorQa19
import Derived.Test.YtmlfbihlbiikeaaGreatDoorQa02
namespace Go.Proofs.YtmlfbihlbiikeaaGreatDoor
open Go.RowKit

theorem rstep (y : Nat) (ht : y / 2147483648 = 1) : bits .xor .u32 ((y : Int) * 2 % 4294967296) 517762881 = ((m1 y : Nat) : Int) := by
  have := nbits_xor32 (y * 2 % 4294967296) 517762881 (Nat.mod_lt _ (by omega)) (by omega)
  unfold m1
  rw [if_pos ht, ← this]
  rfl
set_option maxHeartbeats 400000 in
theorem mask_any (n : Nat) (w : World) (h : n < 4294967296) :
    Calls Tryz.prog 217 #[.int .u32 (n : Int)] w fun e w' => e = .returned (.int .u32 (maskN n : Nat)) ∧ w' = w := by
  have HX : Hid (bits .or .u32 ((n : Int) / 32768) ((n : Int) * 131072 % 4294967296) = ((n / 32768 + n % 32768 * 131072 : Nat) : Int)) := by
    have := nbits_or32 (n / 32768) (n * 131072 % 4294967296) (by omega) (Nat.mod_lt _ (by omega))
    rw [mask_or n h] at this
    exact this
  go_enter Tryz.func217, Tryz.ntmps217
  go_wp2
  go_ret
  exact ⟨ret1 (congrArg (Value.int .u32) (by rw [HX.out]; unfold maskN; omega)), rfl⟩
end Go.Proofs.YtmlfbihlbiikeaaGreatDoor
namespace Go.Proofs.YtmlfbihlbiikeaaGreatDoor
open Go.RowKit
theorem fixed_eq {a : Option Addr} {len cap : Nat} {bs : List UInt8} {size : Int} {w : World} (h : BsAt w a len cap bs) {n er : Nat} (hr : fxRead bs size = (n, er)) :
    Calls Tryz.prog 191 #[.slice a len cap, .int .i64 size] w fun e w' => e = .returned (.tuple #[.int .u64 (n : Nat), .int .i64 (er : Nat)]) ∧ w' = w := by
  have := fixed_any a len cap bs size w h
  rw [hr] at this
  exact this
end Go.Proofs.YtmlfbihlbiikeaaGreatDoor
namespace Go.Proofs.YtmlfbihlbiikeaaGreatDoor
open Go.RowKit

theorem crc_lt (bs : List UInt8) : crc bs < 4294967296 := xor32 (by omega) (crcGo_lt bs (by omega))
theorem sumN_lt (k : UInt8) (b : List UInt8) : sumN k b < 4294967296 := maskN_lt _
theorem OwnB.oneLit (w : World) (x : Int) (k : UInt8) (hx : x = (k.toNat : Int)) (B : Nat) (hB : B ≤ w.heap.size) : OwnB (w.alloc (.cells #[.int .u8 x] 5)) B (some ⟨w.heap.size, 0, none⟩) 1 1 [k] := by
  subst hx
  exact ⟨rfl, by simp [cellsB], .inr ⟨w.heap.size, 1, _, rfl, hB, heap_alloc_new w _, Nat.le_refl _, by unfold maxLen; omega, rfl, by simp [cellsB]⟩⟩
theorem wpList_zeros (w : World) {ops : Array Oper} {rest : List Oper} {o : Oper} {a : Act} {Q : Exit → Act → World → Prop} (hgd : o.guard = none) (s x : Operand)
    (ho : o.op = .call { callee := .builtin .append, args := #[s, x], argTypes := #[29, 3] })
    (B n : Nat) (hs : a.eval s = .slice none 0 0) (hx : a.eval x = .int .i64 (n : Int)) (h0 : 0 < n) (hl : n ≤ 4096) (hB : B ≤ w.heap.size)
    (h : ∀ a' c' w', OwnB w' B a' n c' (List.replicate n 0) → Below w.heap.size w w' → wpList Tryz.prog ops Q rest (a.put o.dst (.slice a' n c')) w') :
    wpList Tryz.prog ops Q (o :: rest) a w := by
  obtain ⟨i, hi, hz0, hz1, hz2⟩ := info_parts infoU8
  have hge := grownCap_ge w n 0 5
  have hr := Lib.run_append_nil_zeros (P := Tryz.prog) w 29 3 o.type 5 i (.int .u8 0) .i64 .i64 Tryz.underlying29 Tryz.underlying3 hi hz0 n h0 (by rw [hz1]; omega) (by omega) (by rw [hz2]; omega)
  refine Lib.wpList_append_run w hgd s x _ _ ho _ _ hs hx _ _ hr (h _ _ _ ⟨by simp, by simp [cellsB], .inr ⟨w.heap.size, _, _, rfl, hB, heap_alloc_new w.drew _, hge, grownCap_le_maxLen w n 0 _ (by unfold maxLen; omega), ?_, ?_⟩⟩ (((Below.refl _ w).drew).alloc (Nat.le_refl _) _))
  · simp [size_zeroCells, Value.cells]
    omega
  · simp [Builtin.zeroCells, Value.cells, cellsB, Nat.mod_one, List.map_const']

set_option maxHeartbeats 400000 in
theorem left_any (p : Nat) (w : World) (hp : p ≤ 9223372036854775807) : Calls Tryz.prog 119 #[.int .i64 (p : Int)] w fun e w' => e = .returned (.int .i64 (leftN p : Nat)) ∧ w' = w := by
  go_enter Tryz.func119, Tryz.ntmps119
  go_wp2
  go_ret
  exact ⟨ret1 (congrArg (Value.int .i64) (by unfold leftN; omega)), rfl⟩
set_option maxHeartbeats 400000 in
theorem kindOf_any (f l : Bool) (w : World) : Calls Tryz.prog 121 #[.bool f, .bool l] w fun e w' => e = .returned (.int .u8 ((kindN f l).toNat : Nat)) ∧ w' = w := by
  cases f <;> cases l
  all_goals
    go_enter Tryz.func121, Tryz.ntmps121
    go_wp2
    go_ret
    exact ⟨rfl, rfl⟩
set_option maxRecDepth 100000 in
set_option maxHeartbeats 400000 in
theorem sumOf_any (k : UInt8) (a : Option Addr) (len cap : Nat) (b : List UInt8) (w : World) (h : BsAt w a len cap b) (hl : len ≤ 140737488355000) :
    Calls Tryz.prog 174 #[.int .u8 (k.toNat : Int), .slice a len cap] w fun e w' => e = .returned (.int .u64 (sumN k b : Nat)) ∧ Below w.heap.size w w' := by
  have hcl := crc_lt (k :: b)
  have HL : Hid (crc (k :: b) < 4294967296) := hcl
  have HS : Hid (sumN k b < 4294967296) := sumN_lt k b
  clear hcl
  go_enter Tryz.func174, Tryz.ntmps174
  go_wp2_with (first
    | (at_builtin; refine wpList_app _ rfl _ _ rfl w.heap.size _ 1 1 [k] rfl (OwnB.oneLit w _ k rfl _ (Nat.le_refl _)) _ _ _ b rfl (h.alloc _) (by omega) (by simp) ?_))
  intro a1 c1 w1 ho1 hb1 _
  have HB1 : Hid (Below w.heap.size w w1) := ((Below.refl _ _).alloc (Nat.le_refl _) _).trans hb1
  have HO1 : Hid (BsAt w1 a1 (1 + len) c1 (k :: b)) := ho1.bs
  clear hb1 ho1
  go_wp2_with (go_at_call 218; refine (crc_any _ _ _ (k :: b) _ HO1.out).mono ?_; rintro e w2 ⟨rfl, hb2⟩)
  have HB2 : Hid (Below w.heap.size w w2) := HB1.out.trans (hb2.mono HB1.out.size)
  clear hb2
  go_wp2_with (go_at_call 217; refine (mask_any _ _ HL.out).mono ?_; rintro e w3 ⟨rfl, rfl⟩)
  have hs := HS.out
  unfold sumN at hs
  go_wp2
  go_ret
  exact ⟨ret1 (congrArg (Value.int .u64) (by unfold sumN; simp [IntKind.wrap, IntKind.bits, IntKind.signed]; omega)), HB2.out⟩
theorem fx4 (n : Nat) : fxPut n 4 = fxEnc n 4 := by unfold fxPut; rw [if_neg (by omega)]; rfl
theorem fx2 (n : Nat) : fxPut n 2 = fxEnc n 2 := by unfold fxPut; rw [if_neg (by omega)]; rfl
theorem putFx4 (n : Nat) (w : World) (hn : n < 18446744073709551616) :
    Calls Tryz.prog 173 #[.slice none 0 0, .int .u64 (n : Int), .int .i64 4] w fun e w' => ∃ a' c', e = .returned (.slice a' 4 c') ∧ OwnB w' w.heap.size a' 4 c' (fxEnc n 4) ∧ Below w.heap.size w w' := by
  refine (putFixed_any none 0 0 [] n 4 w (BsAt.nil w) hn (by omega)).mono ?_
  rintro e w' ⟨a', c', rfl, ho, hb⟩
  rw [fx4, fxEnc_length, Nat.zero_add] at ho ⊢
  exact ⟨a', c', rfl, ho, hb⟩
theorem putFx2 (n : Nat) (w : World) (hn : n < 18446744073709551616) :
    Calls Tryz.prog 173 #[.slice none 0 0, .int .u64 (n : Int), .int .i64 2] w fun e w' => ∃ a' c', e = .returned (.slice a' 2 c') ∧ OwnB w' w.heap.size a' 2 c' (fxEnc n 2) ∧ Below w.heap.size w w' := by
  refine (putFixed_any none 0 0 [] n 2 w (BsAt.nil w) hn (by omega)).mono ?_
  rintro e w' ⟨a', c', rfl, ho, hb⟩
  rw [fx2, fxEnc_length, Nat.zero_add] at ho ⊢
  exact ⟨a', c', rfl, ho, hb⟩
set_option maxRecDepth 100000 in
set_option maxHeartbeats 400000 in
theorem pieceBytes_any (k : UInt8) (a : Option Addr) (len cap : Nat) (b : List UInt8) (w : World) (h : BsAt w a len cap b) (hl : len ≤ 140737488355000) :
    Calls Tryz.prog 120 #[.int .u8 (k.toNat : Int), .slice a len cap] w fun e w' => ∃ a' c', e = .returned (.slice a' (7 + len) c') ∧ OwnB w' w.heap.size a' (7 + len) c' (pcEnc k b) ∧ Below w.heap.size w w' := by
  have hs := sumN_lt k b
  have hsz := h.size
  have HS : Hid (sumN k b < 18446744073709551616) := by unfold Hid; omega
  have HZ : Hid (b.length = len) := hsz
  clear hs hsz
  go_enter Tryz.func120, Tryz.ntmps120
  go_wp2_with (go_at_call 174; refine (sumOf_any k _ _ _ b _ h hl).mono ?_; rintro e w1 ⟨rfl, hb1⟩)
  have HB1 : Hid (Below w.heap.size w w1) := hb1
  clear hb1
  go_wp2_with fail
  refine (putFx4 (sumN k b) _ HS.out).mono ?_
  rintro e w2 ⟨a2, c2, rfl, ho2, hb2⟩
  have HO2 : Hid (OwnB w2 w.heap.size a2 4 c2 (fxEnc (sumN k b) 4)) := ho2.mono HB1.out.size
  have HB2 : Hid (Below w.heap.size w w2) := HB1.out.trans (hb2.mono HB1.out.size)
  clear ho2 hb2
  go_wp2_with fail
  refine (putFx2 len _ (by omega)).mono ?_
  rintro e w3 ⟨a3, c3, rfl, ho3, hb3⟩
  have HO3 : Hid (OwnB w3 w.heap.size a2 4 c2 (fxEnc (sumN k b) 4)) := HO2.out.below hb3
  have HS3 : Hid (BsAt w3 a3 2 c3 (fxEnc len 2)) := ho3.bs
  have HB3 : Hid (Below w.heap.size w w3) := HB2.out.trans (hb3.mono HB2.out.size)
  clear ho3 hb3
  go_wp2_with (first
    | (at_builtin; refine wpList_app _ rfl _ _ rfl w.heap.size _ _ _ (fxEnc (sumN k b) 4) rfl HO3.out _ _ _ (fxEnc len 2) rfl HS3.out (by omega) HB3.out.size ?_))
  intro a4 c4 w4 ho4 hb4 _
  have HO4 : Hid (OwnB w4 w.heap.size a4 (4 + 2) c4 (fxEnc (sumN k b) 4 ++ fxEnc len 2)) := ho4
  have HB4 : Hid (Below w.heap.size w w4) := HB3.out.trans hb4
  clear ho4 hb4
  go_wp2_with (first
    | (at_builtin; refine wpList_app _ rfl _ _ rfl w.heap.size _ _ _ (fxEnc (sumN k b) 4 ++ fxEnc len 2) rfl (HO4.out.alloc _) _ _ _ [k] rfl (BsAt.one rfl) (by omega) (by have := HB4.out.size; simp; omega) ?_))
  intro a5 c5 w5 ho5 hb5 _
  have HO5 : Hid (OwnB w5 w.heap.size a5 (4 + 2 + 1) c5 (fxEnc (sumN k b) 4 ++ fxEnc len 2 ++ [k])) := ho5
  have HB5 : Hid (Below w.heap.size w w5) := (HB4.out.alloc HB4.out.size _).trans hb5
  clear ho5 hb5
  go_wp2_with (first
    | (at_builtin; refine wpList_app _ rfl _ _ rfl w.heap.size _ _ _ (fxEnc (sumN k b) 4 ++ fxEnc len 2 ++ [k]) rfl HO5.out _ _ _ b rfl (h.below (Nat.le_refl _) HB5.out) (by omega) HB5.out.size ?_))
  intro a6 c6 w6 ho6 hb6 _
  go_wp2
  go_ret
  refine ⟨a6, c6, ret1 rfl, ?_, HB5.out.trans hb6⟩
  unfold pcEnc
  rw [HZ.out]
  simpa using ho6
end Go.Proofs.YtmlfbihlbiikeaaGreatDoor
namespace Go.Proofs.YtmlfbihlbiikeaaGreatDoor
open Go.RowKit
theorem step_appB {ops : Array Oper} {o : Oper} {a : Act} {w : World} {K : Act → World → Prop} {Q : Exit → Act → World → Prop} {E : Prop} (hgd : o.guard = none) (s x : Operand)
    (ho : o.op = .call { callee := .builtin .append, args := #[s, x], argTypes := #[29, 29] })
    (B : Nat) (a1 : Option Addr) (n1 c1 : Nat) (bs : List UInt8) (hs : a.eval s = .slice a1 n1 c1) (hown : OwnB w B a1 n1 c1 bs)
    (a2 : Option Addr) (n2 c2 : Nat) (cs : List UInt8) (hx : a.eval x = .slice a2 n2 c2) (hsrc : BsAt w a2 n2 c2 cs)
    (hl : n1 + n2 ≤ 140737488355328) (hB : B ≤ w.heap.size)
    (h : ∀ a' c' w', OwnB w' B a' (n1 + n2) c' (bs ++ cs) → Below B w w' → K (a.put o.dst (.slice a' (n1 + n2) c')) w') :
    if Region.wanted o (yielded ops a.tmps) = true then Oper.wp Tryz.prog o a w K Q else E := by
  have hw : Region.wanted o (yielded ops a.tmps) = true := by simp [Region.wanted, hgd]
  rw [if_pos hw]
  obtain ⟨i, hi, hz0, hz1, hz2⟩ := info_parts infoU8
  have hsz := hsrc.size
  have hlt : ∀ k, (Value.slice a1 n1 c1).ownBlock = some k → B ≤ k := fun k hk => (hown.row.lt k hk).1
  cases a2 with
  | none =>
    have hc0 := hsrc.bare rfl
    have hle := hsrc.le
    obtain rfl : n2 = 0 := by omega
    subst hc0
    obtain rfl := List.eq_nil_of_length_eq_zero hsz
    have hrun := run_append_owned_none (P := Tryz.prog) (w := w) B 29 o.type 5 i 1 Tryz.underlying29 hi _ n1 _ hown.row
    unfold Oper.wp
    simp [execOp, ho, resolve, invoke, builtin, hs, hx, hrun, Result.andThen]
    exact h a1 c1 w (by simpa using hown) (Below.refl _ _)
  | some ad =>
    have hcell : ∀ j u, (cellsB cs)[j]? = some u → w.cell? (ad.add j) = some u := by
      intro j u hu
      have hj : j < cs.length := by have := (List.getElem?_eq_some_iff.1 hu).1; rwa [cellsB_length] at this
      obtain ⟨b, off, he, hc⟩ := hsrc.here (by omega)
      obtain rfl := Option.some.inj he
      rw [cellsB_get cs j hj] at hu
      obtain rfl := Option.some.inj hu
      rw [Addr.add_lit]
      exact hc j (by omega)
    obtain ⟨v', w', hr, h2, h3, h4, h5⟩ := run_append_own_at (P := Tryz.prog) w B 29 o.type 5 i (.int .u8 0) 1 1 Tryz.underlying29 hi hz0 hz1 hz2 rfl (by decide) _ n1 _ hown.row ad n2 c2 (cellsB cs) (by rw [cellsB_length]; omega) hcell (cellsB_one cs) (by unfold maxLen; omega) (by omega) hB
    unfold Oper.wp execOp
    simp only [ho, resolve, invoke, builtin, Sem.run_bind, Sem.run_pure, Result.andThen_ok, List.map_toArray, List.map_cons, List.map_nil, hs, hx, hr]
    rw [← cellsB_append] at h2
    obtain ⟨a', c', rfl, ho'⟩ := own_of_row h2
    exact h a' c' w' ho' ((Below.refl B w).grown h3 hB hlt)
theorem slice_to {w0 : World} {bs0 : List UInt8} {a : Option Addr} {len cap : Nat} (h : BsAt w0 a len cap bs0) (k : Nat) (hk : k ≤ len) :
    ∃ a', (∀ W : World, (Instr.slice 29 (.slice a len cap) none (some (.int .i64 (k : Int))) none).run Tryz.prog W = .ok (.slice a' k cap) W) ∧
      (∀ (W : World) (bs : List UInt8), BsAt W a len cap bs → BsAt W a' k cap (bs.take k)) := by
  have hle := h.le
  have hmx := h.max
  cases a with
  | none =>
    obtain rfl := h.bare rfl
    obtain rfl : k = 0 := by omega
    refine ⟨none, fun W => ?_, fun W bs hb => hb.upTo 0 (by omega)⟩
    simp [Instr.slice, run_underlying Tryz.underlying29, go_sem]
  | some ad =>
    obtain ⟨b, off, s⟩ := ad
    by_cases hc : cap = 0
    · subst hc
      obtain rfl : k = 0 := by omega
      refine ⟨some ⟨b, off, s⟩, fun W => ?_, fun W bs hb => hb.upTo 0 (by omega)⟩
      simp [Instr.slice, run_underlying Tryz.underlying29, go_sem]
    · refine ⟨some ⟨b, off, s⟩, fun W => ?_, fun W bs hb => hb.upTo k hk⟩
      simp [Instr.slice, run_underlying Tryz.underlying29, go_sem]
      intro hh
      omega
theorem slice_mid {w0 : World} {bs0 : List UInt8} {a : Option Addr} {len cap : Nat} (h : BsAt w0 a len cap bs0) (lo hi : Nat) (hlo : lo ≤ hi) (hhi : hi ≤ len) :
    ∃ a', (∀ W : World, (Instr.slice 29 (.slice a len cap) (some (.int .i64 (lo : Int))) (some (.int .i64 (hi : Int))) none).run Tryz.prog W = .ok (.slice a' (hi - lo) (cap - lo)) W) ∧
      (∀ (W : World) (bs : List UInt8), BsAt W a len cap bs → BsAt W a' (hi - lo) (cap - lo) ((bs.drop lo).take (hi - lo))) := by
  have hle := h.le
  have hmx := h.max
  cases a with
  | none =>
    obtain rfl := h.bare rfl
    obtain rfl : hi = 0 := by omega
    obtain rfl : lo = 0 := by omega
    refine ⟨none, fun W => ?_, fun W bs hb => hb.upTo 0 (by omega)⟩
    simp [Instr.slice, run_underlying Tryz.underlying29, go_sem]
  | some ad =>
    obtain ⟨b, off, s⟩ := ad
    by_cases hc : cap - lo = 0
    · obtain rfl : lo = cap := by omega
      obtain rfl : hi = lo := by omega
      refine ⟨some ⟨b, off, s⟩, fun W => ?_, fun W bs hb => ?_⟩
      · simp [Instr.slice, run_underlying Tryz.underlying29, go_sem]
      · rw [Nat.sub_self, List.take_zero]
        exact BsAt.empty _ _ (by omega)
    · refine ⟨some ((⟨b, off, s⟩ : Addr).add lo), fun W => ?_, fun W bs hb => ?_⟩
      · have h1 : hi ≤ cap := by omega
        have h3 : ¬ cap = lo := by omega
        simp [Instr.slice, run_underlying Tryz.underlying29, go_sem, h1, hlo, h3]
      · rcases Nat.eq_zero_or_pos (hi - lo) with h0 | h0
        · rw [h0, List.take_zero]
          exact BsAt.empty _ _ (by omega)
        · obtain ⟨b', o', e, _⟩ := hb.here (by omega)
          simp only [Option.some.injEq, Addr.mk.injEq] at e
          obtain ⟨rfl, rfl, rfl⟩ := e
          rw [Addr.add_lit]
          exact hb.sub lo (hi - lo) (by omega)
end Go.Proofs.YtmlfbihlbiikeaaGreatDoor
namespace Go.Proofs.YtmlfbihlbiikeaaGreatDoor
open Go.RowKit
end Go.Proofs.YtmlfbihlbiikeaaGreatDoor
namespace Go.Proofs.YtmlfbihlbiikeaaGreatDoor

theorem pcs_len (b : List UInt8) : ∀ (f p : Nat), (pcsF f b p).length ≤ f
  | 0, _ => Nat.le_refl _
  | f + 1, p => by
    unfold pcsF
    split
    · simp
    · split
      · have := pcs_len b f (p + leftN p)
        omega
      · split
        · simp
        · have := pcs_len b f (pcAt b p).behind
          simp
          omega
theorem pcs_few (b : List UInt8) : (pcs b 0).length ≤ b.length := by
  have := pcs_len b (b.length - 0) 0
  unfold pcs
  omega
end Go.Proofs.YtmlfbihlbiikeaaGreatDoor
namespace Go.Proofs.YtmlfbihlbiikeaaGreatDoor
set_option linter.unusedVariables false
set_option linter.unusedSimpArgs false
def sumL (l : List (List UInt8)) : Nat := (l.map List.length).sum
theorem sumL_append (l m : List (List UInt8)) : sumL (l ++ m) = sumL l + sumL m := by simp [sumL]
theorem sumL_mem {l : List (List UInt8)} {x : List UInt8} (h : x ∈ l) : x.length ≤ sumL l := by
  induction l with
  | nil => cases h
  | cons a r ih =>
    show x.length ≤ a.length + sumL r
    rcases List.mem_cons.1 h with rfl | h
    · omega
    · have := ih h
      omega
theorem rdL_sum (b : List UInt8) : ∀ (l : List Pc) (begun : Bool) (cur : List UInt8) (rs : List (List UInt8)) (size : Nat), sumL (rdL b l begun cur rs size).1 ≤ sumL rs + cur.length + (l.map Pc.n).sum
  | [], _, _, rs, _ => by
    show sumL rs ≤ _
    omega
  | x :: l, begun, cur, rs, size => by
    have hb : (x.body b).length ≤ x.n := by unfold Pc.body; rw [List.length_take]; omega
    unfold rdL
    rw [List.map_cons, List.sum_cons]
    split
    · show sumL rs ≤ _
      omega
    · split
      · show sumL rs ≤ _
        omega
      · split
        · have := rdL_sum b l false [] (rs ++ [cur ++ x.body b]) x.behind
          rw [sumL_append] at this
          simp only [sumL, List.map_cons, List.map_nil, List.sum_cons, List.sum_nil, List.length_append, List.length_nil] at this ⊢
          omega
        · have := rdL_sum b l true (cur ++ x.body b) rs size
          rw [List.length_append] at this
          omega
theorem pcsF_sum (b : List UInt8) : ∀ (f p : Nat), p ≤ b.length → ((pcsF f b p).map Pc.n).sum ≤ b.length - p
  | 0, p, _ => by simp [pcsF]
  | f + 1, p, hp => by
    unfold pcsF
    split
    · simp
    · rename_i h1
      split
      · by_cases h : p + leftN p ≤ b.length
        · have := pcsF_sum b f _ h
          omega
        · have hn : pcsF f b (p + leftN p) = [] := by
            cases f with
            | zero => rfl
            | succ f => unfold pcsF; rw [if_pos (by omega)]
          rw [hn]
          simp
      · have hok := pcAt_ok b p hp
        split
        · rename_i hf
          have h0 : (pcAt b p).n = 0 := by
            rcases hok with h | h
            · exact absurd h.1 hf
            · exact h.2.2.2.2
          simp [h0]
        · rename_i hf
          have hf0 : (pcAt b p).fault = 0 := by omega
          have hbe := pcAt_behind b p hf0
          have hbb : (pcAt b p).behind = (pcAt b p).off + (pcAt b p).n := by unfold Pc.behind; omega
          have hle : (pcAt b p).off + (pcAt b p).n ≤ b.length := by
            rcases hok with h | h
            · exact h.2.1
            · exact absurd hf0 h.1
          have := pcsF_sum b f (pcAt b p).behind (by omega)
          rw [List.map_cons, List.sum_cons]
          omega
theorem read_sum (b : List UInt8) : sumL (walRead b).1 ≤ b.length := by
  have h1 := rdL_sum b (pcs b 0) false [] [] 0
  have h2 := pcsF_sum b (b.length - 0) 0 (Nat.zero_le _)
  have h3 : sumL [] = 0 := rfl
  unfold walRead
  unfold pcs at h1 ⊢
  simp only [List.length_nil] at h1
  omega
theorem decS_app : ∀ (l m : List (List UInt8)) (s : PSt), decS s (l ++ m) = (decS s l).bind fun t => decS t m
  | [], m, s => rfl
  | a :: l, m, s => by
    show (decE a).bind (fun x => (stepS s x).bind fun t => decS t (l ++ m)) = ((decE a).bind fun x => (stepS s x).bind fun t => decS t l).bind _
    cases decE a with
    | none => rfl
    | some x =>
      show (stepS s x).bind (fun t => decS t (l ++ m)) = ((stepS s x).bind fun t => decS t l).bind _
      cases stepS s x with
      | none => rfl
      | some t => exact decS_app l m t
theorem decS_snoc : ∀ (l : List (List UInt8)) (b : List UInt8) (s : PSt), decS s (l ++ [b]) = (decS s l).bind fun t => (decE b).bind fun x => stepS t x
  | [], b, s => by
    show (decE b).bind (fun x => (stepS s x).bind fun t => some t) = (decE b).bind fun x => stepS s x
    cases decE b with
    | none => rfl
    | some x =>
      show (stepS s x).bind (fun t => some t) = stepS s x
      cases stepS s x <;> rfl
  | a :: l, b, s => by
    show (decE a).bind (fun x => (stepS s x).bind fun t => decS t (l ++ [b])) = ((decE a).bind fun x => (stepS s x).bind fun t => decS t l).bind _
    cases decE a with
    | none => rfl
    | some x =>
      show (stepS s x).bind (fun t => decS t (l ++ [b])) = ((stepS s x).bind fun t => decS t l).bind _
      cases stepS s x with
      | none => rfl
      | some t => exact decS_snoc l b t
theorem steps_few : ∀ (l : List PE) (s t : PSt), stepsS s l = some t → t.v.all.length ≤ s.v.all.length + 100 * l.length
  | [], s, t, h => by
    obtain rfl := Option.some.inj (show some s = some t from h)
    exact Nat.le_add_right _ _
  | x :: l, s, t, h => by
    have h' : (stepS s x).bind (fun u => stepsS u l) = some t := h
    cases hx : stepS s x with
    | none => rw [hx] at h'; cases h'
    | some u =>
      rw [hx, Option.bind_some] at h'
      have h1 := steps_few l u t h'
      obtain ⟨y, hy, rfl⟩ := stepS_some hx
      have h2 := all_grow hy
      obtain ⟨_, he, _⟩ := apply_zero hy
      have h3 := (PE.err_zero he).2.1
      have h5 : (s.turn x y).v = y := rfl
      rw [h5] at h1
      rw [List.length_cons]
      omega
end Go.Proofs.YtmlfbihlbiikeaaGreatDoor
namespace Go.Proofs.YtmlfbihlbiikeaaGreatDoor
set_option maxRecDepth 100000
open Go.RowKit
set_option linter.unusedVariables false
set_option linter.unusedSimpArgs false
abbrev TFsP : TypeId := 32
abbrev TStr : TypeId := 9
theorem BsAt.heldAt {w w' : World} {a : Option Addr} {n c : Nat} {bs : List UInt8} (h : BsAt w a n c bs) (hk : 0 < n → ∀ ad, a = some ad → w'.heap[ad.block]? = w.heap[ad.block]?) : BsAt w' a n c bs :=
  ⟨h.size, h.le, h.max, h.bare, fun hp => by
    obtain ⟨b, off, ha, hc⟩ := h.here hp
    have hs := hk hp _ ha
    refine ⟨b, off, ha, fun j hj => ?_⟩
    have := hc j hj
    simp only [World.cell?] at this ⊢
    rw [hs]
    exact this⟩
theorem removed_any {J : Face} (H : FsOk J) {i p : Nat} (name : ByteArray) {w : World} {R : Nat → Prop} {l r : Fss} {S : PFs} (hJ : J w R l r) (hl : l[i]? = some (p, S)) (hS : S.asked < 1000000) :
    Calls Tryz.prog 98 #[at_ p, .string name] w fun e w' => e = .returned (.int .i64 ((removedF name.data.toList S).2 : Nat)) ∧ J w' R (l.set i (p, (removedF name.data.toList S).1)) r ∧ Kp R w w' := by
  have HR : Hid (∀ W, J W R l r → Calls Tryz.prog 31 #[at_ p, .string name] W fun e w' =>
    ∃ a c, e = .returned (.tuple #[.slice a (S.read name.data.toList).1.length c, .int .i64 ((S.read name.data.toList).2 : Nat)]) ∧ J w' R l r ∧ Kp R W w') := fun W hW => (H.read i name hW hl).mono fun e w' ⟨a, c, h1, _, h3, h4⟩ => ⟨a, c, h1, H.less h3 fun k hk => .inl hk, h4⟩
  have HM : Hid (∀ W, J W R l r → Calls Tryz.prog 157 #[at_ p, .string name] W fun e w' => e = .returned (.int .i64 ((S.remove name.data.toList).2 : Nat)) ∧ J w' R (l.set i (p, (S.remove name.data.toList).1)) r ∧ Kp R W w') := fun W hW => H.remove i name hW hl hS
  have HD : Hid (removedF name.data.toList S = if (S.read name.data.toList).2 = 0 then S.remove name.data.toList else if (S.read name.data.toList).2 = 42 then (S, 0) else (S, (S.read name.data.toList).2)) := rfl
  have HJ : Hid (J w R l r ∧ l.set i (p, S) = l) := ⟨hJ, set_self_at hl⟩
  clear hJ
  generalize removedF name.data.toList S = o at HD ⊢
  generalize S.read name.data.toList = rd at HR HD
  generalize S.remove name.data.toList = rm at HM HD
  obtain ⟨rb, re⟩ := rd
  dsimp only at HR HD
  generalize rb.length = rn at HR
  go_enter Tryz.func98, Tryz.ntmps98
  go_wp2_with fail
  refine (HR.out _ HJ.out.1).mono ?_
  rintro _ w1 ⟨a1, c1, rfl, hJ1, hk1⟩
  have H1 : Hid (J w1 R l r ∧ Kp R w w1) := ⟨hJ1, hk1⟩
  clear hJ1 hk1 HR
  by_cases h0 : re = 0
  · subst h0
    have HO : Hid (o = rm) := by unfold Hid; rw [HD.out]; rfl
    go_wp2_with fail
    refine (HM.out _ H1.out.1).mono ?_
    rintro _ w2 ⟨rfl, hJ2, hk2⟩
    have H2 : Hid (J w2 R (l.set i (p, rm.1)) r ∧ Kp R w w2) := ⟨hJ2, H1.out.2.trans hk2⟩
    clear hJ2 hk2
    go_wp2
    go_ret
    rw [HO.out]
    exact ⟨rfl, H2.out⟩
  · have hb : ((re : Int) == 0) = false := beq_eq_false_iff_ne.2 (by omega)
    by_cases h2 : re = 42
    · subst h2
      have HO : Hid (o = (S, 0)) := by unfold Hid; rw [HD.out]; rfl
      go_wp2
      go_ret
      rw [HO.out]
      exact ⟨rfl, by rw [HJ.out.2]; exact H1.out.1, H1.out.2⟩
    · have hb2 : ((re : Int) == 42) = false := beq_eq_false_iff_ne.2 (by omega)
      have HO : Hid (o = (S, re)) := by unfold Hid; rw [HD.out, if_neg h0, if_neg h2]
      go_wp2
      go_ret
      rw [HO.out]
      exact ⟨rfl, by rw [HJ.out.2]; exact H1.out.1, H1.out.2⟩
section
variable {J : Face} {i p : Nat} {C : Nat → Prop} {W0 : World}
theorem write1_does (H : FsOk J) {bf bn : Nat} {name : ByteArray} (hf : C bf) (hn : C bn) (xf : Box W0 bf TFsP #[at_ p]) (xn : Box W0 bn TStr #[.string name]) : Does J i p C W0 (.func (.func 54) #[] #[at_ bf, at_ bn]) (fun S => S.create name.data.toList) := by
  refine ⟨_, _, _, rfl, fun W => enters_of Tryz.func54 (by kernel_rfl) rfl _ W, ?_⟩
  intro w R l r S hH hJ hl hS
  have c0 := (hH.box hf xf).cell 0
  have c1 := (hH.box hn xn).cell 0
  have HC := H.create i name hJ hl hS
  rw [show (#[] ++ #[at_ bf, at_ bn] : Array Value) = #[at_ bf, at_ bn] from by simp]
  go_enter Tryz.func54, Tryz.ntmps54
  go_wp2_with fail
  refine HC.mono ?_
  rintro _ w2 ⟨rfl, h2, h3⟩
  go_wp2
  go_ret
  exact ⟨rfl, h2, h3⟩
theorem laid1_does (H : FsOk J) {bf bn : Nat} {name : ByteArray} (hf : C bf) (hn : C bn) (xf : Box W0 bf TFsP #[at_ p]) (xn : Box W0 bn TStr #[.string name]) : Does J i p C W0 (.func (.func 97) #[] #[at_ bf, at_ bn]) (removedF name.data.toList) := by
  refine ⟨_, _, _, rfl, fun W => enters_of Tryz.func97 (by kernel_rfl) rfl _ W, ?_⟩
  intro w R l r S hH hJ hl hS
  have c0 := (hH.box hf xf).cell 0
  have c1 := (hH.box hn xn).cell 0
  have HC := removed_any H name hJ hl hS
  rw [show (#[] ++ #[at_ bf, at_ bn] : Array Value) = #[at_ bf, at_ bn] from by simp]
  go_enter Tryz.func97, Tryz.ntmps97
  go_wp2_with fail
  refine HC.mono ?_
  rintro _ w2 ⟨rfl, h2, h3⟩
  go_wp2
  go_ret
  exact ⟨rfl, h2, h3⟩
theorem laid2_does (H : FsOk J) {bf bn : Nat} {name : ByteArray} (hf : C bf) (hn : C bn) (xf : Box W0 bf TFsP #[at_ p]) (xn : Box W0 bn TStr #[.string name]) : Does J i p C W0 (.func (.func 99) #[] #[at_ bf, at_ bn]) (fun S => S.create name.data.toList) := by
  refine ⟨_, _, _, rfl, fun W => enters_of Tryz.func99 (by kernel_rfl) rfl _ W, ?_⟩
  intro w R l r S hH hJ hl hS
  have c0 := (hH.box hf xf).cell 0
  have c1 := (hH.box hn xn).cell 0
  have HC := H.create i name hJ hl hS
  rw [show (#[] ++ #[at_ bf, at_ bn] : Array Value) = #[at_ bf, at_ bn] from by simp]
  go_enter Tryz.func99, Tryz.ntmps99
  go_wp2_with fail
  refine HC.mono ?_
  rintro _ w2 ⟨rfl, h2, h3⟩
  go_wp2
  go_ret
  exact ⟨rfl, h2, h3⟩
theorem laid3_does (H : FsOk J) {bf bn bb : Nat} {name : ByteArray} {a : Option Addr} {n c : Nat} {bs : List UInt8} (hf : C bf) (hn : C bn) (hb : C bb) (xf : Box W0 bf TFsP #[at_ p]) (xn : Box W0 bn TStr #[.string name]) (xb : Box W0 bb 29 #[.slice a n c]) (ho : BsAt W0 a n c bs) (hr : 0 < n → ∀ ad, a = some ad → C ad.block) (hl : n ≤ 140737488355328) : Does J i p C W0 (.func (.func 100) #[] #[at_ bf, at_ bn, at_ bb]) (fun S => S.append name.data.toList bs) := by
  refine ⟨_, _, _, rfl, fun W => enters_of Tryz.func100 (by kernel_rfl) rfl _ W, ?_⟩
  intro w R l r S hH hJ hl0 hS
  have c0 := (hH.box hf xf).cell 0
  have c1 := (hH.box hn xn).cell 0
  have c2 := (hH.box hb xb).cell 0
  have hbs : BsAt w a n c bs := ho.heldAt fun hp ad e => hH.same _ (hr hp ad e)
  have HC := H.append i name a n c bs hJ hl0 hS hbs hl
  rw [show (#[] ++ #[at_ bf, at_ bn, at_ bb] : Array Value) = #[at_ bf, at_ bn, at_ bb] from by simp]
  go_enter Tryz.func100, Tryz.ntmps100
  go_wp2_with fail
  refine HC.mono ?_
  rintro _ w2 ⟨rfl, h2, h3⟩
  go_wp2
  go_ret
  exact ⟨rfl, h2, h3⟩
theorem laid4_does (H : FsOk J) {bf bn : Nat} {name : ByteArray} (hf : C bf) (hn : C bn) (xf : Box W0 bf TFsP #[at_ p]) (xn : Box W0 bn TStr #[.string name]) : Does J i p C W0 (.func (.func 101) #[] #[at_ bf, at_ bn]) (fun S => S.sync name.data.toList) := by
  refine ⟨_, _, _, rfl, fun W => enters_of Tryz.func101 (by kernel_rfl) rfl _ W, ?_⟩
  intro w R l r S hH hJ hl hS
  have c0 := (hH.box hf xf).cell 0
  have c1 := (hH.box hn xn).cell 0
  have HC := H.sync i name hJ hl hS
  rw [show (#[] ++ #[at_ bf, at_ bn] : Array Value) = #[at_ bf, at_ bn] from by simp]
  go_enter Tryz.func101, Tryz.ntmps101
  go_wp2_with fail
  refine HC.mono ?_
  rintro _ w2 ⟨rfl, h2, h3⟩
  go_wp2
  go_ret
  exact ⟨rfl, h2, h3⟩
theorem laid5_does (H : FsOk J) {bf bn bm : Nat} {name to' : ByteArray} (hf : C bf) (hn : C bn) (hm : C bm) (xf : Box W0 bf TFsP #[at_ p]) (xn : Box W0 bn TStr #[.string name]) (xm : Box W0 bm TStr #[.string to']) : Does J i p C W0 (.func (.func 102) #[] #[at_ bf, at_ bn, at_ bm]) (fun S => S.rename name.data.toList to'.data.toList) := by
  refine ⟨_, _, _, rfl, fun W => enters_of Tryz.func102 (by kernel_rfl) rfl _ W, ?_⟩
  intro w R l r S hH hJ hl hS
  have c0 := (hH.box hf xf).cell 0
  have c1 := (hH.box hn xn).cell 0
  have c2 := (hH.box hm xm).cell 0
  have HC := H.rename i name to' hJ hl hS
  rw [show (#[] ++ #[at_ bf, at_ bn, at_ bm] : Array Value) = #[at_ bf, at_ bn, at_ bm] from by simp]
  go_enter Tryz.func102, Tryz.ntmps102
  go_wp2_with fail
  refine HC.mono ?_
  rintro _ w2 ⟨rfl, h2, h3⟩
  go_wp2
  go_ret
  exact ⟨rfl, h2, h3⟩
theorem syncDir_does (H : FsOk J) : Does J i p C W0 (.func (.func 58) #[at_ p] #[]) (fun S => S.syncDir) := by
  refine ⟨_, _, _, rfl, fun W => enters_of Tryz.func58 (by kernel_rfl) rfl _ W, ?_⟩
  intro w R l r S hH hJ hl hS
  rw [show (#[at_ p] ++ #[] : Array Value) = #[at_ p] from by simp]
  exact H.syncDir i hJ hl hS
end
end Go.Proofs.YtmlfbihlbiikeaaGreatDoor
