/- A string as bytes: a new row of its letters. -/
import Derived.Test.YtgegjcnjlibfdabGreatQa03
import Derived.Test.YtgegjcnjlibfdabGreatQa01
namespace Go.Proofs.YtgegjcnjlibfdabGreat
open Go.RowKit

/-- A string as bytes: a new row that reads as its letters. -/
theorem BsAt.ofStr (w : World) (s : ByteArray) (cap : Nat) (fz : Nat × Nat) (hs : s.size ≤ cap) (hc : cap ≤ maxLen) : BsAt (w.drew.alloc (.cells (bytesRow s cap) 5 fz)) (some ⟨w.heap.size, 0, none⟩) s.size cap s.data.toList := by
  have hl : s.data.toList.length = s.size := by rw [Array.length_toList]; rfl
  refine ⟨hl, hs, hc, by simp, fun _ => ⟨w.heap.size, 0, rfl, fun j hj => ?_⟩⟩
  rw [cell_of_row (w.drew.alloc (.cells (bytesRow s cap) 5 fz)) w.heap.size (0 + j) (bytesRow s cap) 5 fz (heap_alloc_new w.drew _)]
  have hj' : j < s.data.size := hj
  simp [bytesRow, List.getD, Array.getElem?_append, hj]
end Go.Proofs.YtgegjcnjlibfdabGreat
/- The contract of ikey.Encode: the bytes of a key, as the plain function keyEnc tells them. -/
namespace Go.Proofs.YtgegjcnjlibfdabGreat
open Go.RowKit

theorem key_or (q : Nat) (k : Int) (h1 : q ≤ 72057594037927935) (h2 : k = 0 ∨ k = 1) : bits .or .u64 ((q : Int) * 256) (IntKind.u64.wrap k) = ((q * 256 + k.toNat : Nat) : Int) := by
  obtain ⟨j, rfl, hj⟩ : ∃ j : Nat, k = (j : Int) ∧ j ≤ 1 := ⟨k.toNat, by omega, by omega⟩
  rw [show IntKind.u64.wrap (j : Int) = (j : Int) by simp [IntKind.wrap, IntKind.bits, IntKind.signed]; omega, show (q : Int) * 256 = ((q * 256 : Nat) : Int) by omega, nbits_or64 _ _ (by omega) (by omega)]
  rw [show q * 256 = q <<< 8 by rw [Nat.shiftLeft_eq], ← Nat.shiftLeft_add_eq_or_of_lt (show j < 2 ^ 8 by omega)]
  rfl

set_option maxRecDepth 100000 in
set_option maxHeartbeats 400000 in
theorem encode_any (s : ByteArray) (q : Nat) (k : Int) (w : World) (hs : s.size ≤ 140737488351232) :
    Calls Tryz.prog 68 #[.agg #[.string s, .int .u64 (q : Int), .int .i64 k]] w fun e w' => ∃ a' c', e = .returned (.tuple #[.slice a' (keyEnc s.data.toList q k).length c', .int .i64 ((chk s.size q k : Nat) : Int)]) ∧ BsAt w' a' (keyEnc s.data.toList q k).length c' (keyEnc s.data.toList q k) ∧ Below w.heap.size w w' := by
  have hsl : s.data.toList.length = s.size := by rw [Array.length_toList]; rfl
  have hb0 : Below w.heap.size w (w.alloc (.cells #[.string s, .int .u64 (q : Int), .int .i64 k] 42)) := (Below.refl _ _).alloc (Nat.le_refl _) _
  by_cases h : chk s.size q k = 0
  · have hy := keyEnc_yes (s := s.data.toList) (q := q) (k := k) (by rw [hsl]; exact h)
    obtain ⟨h1, h2, h3⟩ := chk_zero h
    have HE : Hid (keyEnc s.data.toList q k = s.data.toList ++ fxEnc (q * 256 + k.toNat) 8) := hy
    have HL : Hid (s.data.toList.length = s.size) := hsl
    have HK : Hid (chk s.size q k = 0) := h
    have HO : Hid (_ = _) := key_or q k h2 h3
    have hn : q * 256 + k.toNat < 18446744073709551616 := by omega
    have hck := fun W => check_any s q k W (by omega)
    rw [h] at hck
    clear h h3 hy hsl
    have hcv : ∀ W : World, (convert 9 28 (.string s)).run Tryz.prog W = .ok (.slice (some ⟨W.heap.size, 0, none⟩) s.size (grownCap W s.size 0 5))
        (W.drew.alloc (.cells (bytesRow s (grownCap W s.size 0 5)) 5 ((bytesRow s (grownCap W s.size 0 5)).size, (bytesRow s (grownCap W s.size 0 5)).size + 1))) :=
      fun W => run_bytes_of_string W 9 28 5 s Tryz.underlying9 Tryz.underlying28 Tryz.underlying5
    go_enter Tryz.func68, Tryz.ntmps68
    go_wp2_with (first
      | (go_at_call 64; refine (hck _).mono ?_; rintro e w1 ⟨rfl, hb1⟩
         have f0 : w1.cell? ⟨w.heap.size, 0, none⟩ = some (.string s) := by rw [hb1.cell (by simp)]; simp
         have hz1 : w.heap.size < w1.heap.size := by have := hb1.size; simp at this; omega
         have f1 : w1.cell? ⟨w.heap.size, 1, none⟩ = some (.int .u64 (q : Int)) := by rw [hb1.cell (by simp)]; simp
         have f2 : w1.cell? ⟨w.heap.size, 2, none⟩ = some (.int .i64 k) := by rw [hb1.cell (by simp)]; simp)
      | fail)
    rw [HO.out]
    refine (putFixed_any _ _ _ s.data.toList (q * 256 + k.toNat) 8 _ (BsAt.ofStr w1 s _ _ (grownCap_ge _ _ _ _) (grownCap_le_maxLen _ _ _ _ (by unfold maxLen; omega))) hn (by omega)).mono ?_
    rintro e w2 ⟨a2, c2, rfl, ho2, hb2⟩
    have hB : Below w.heap.size w w2 := by
      have h3 := hb0.trans (hb1.mono hb0.size)
      exact ((h3.alloc h3.size _).drew).trans (hb2.mono (by simp; omega))
    clear hb2
    go_wp2
    go_ret2
    rw [HE.out, List.length_append, HL.out, HK.out]
    exact ⟨a2, c2, ret2 rfl rfl, ho2.bs, hB⟩
  · have HE : Hid (keyEnc s.data.toList q k = []) := keyEnc_no (by rw [hsl]; exact h)
    have hne : (((chk s.size q k : Nat) : Int) != 0) = true := by simp; omega
    have hck := fun W => check_any s q k W (by omega)
    generalize chk s.size q k = c at hne hck
    clear h
    go_enter Tryz.func68, Tryz.ntmps68
    go_wp2_with (go_at_call 64; refine (hck _).mono ?_; rintro e w1 ⟨rfl, hb1⟩)
    go_ret2
    rw [HE.out]
    exact ⟨none, 0, ret2 rfl rfl, BsAt.nil _, hb0.trans (hb1.mono hb0.size)⟩
end Go.Proofs.YtgegjcnjlibfdabGreat
/- Bytes from a place on: what 'b[k:]' gives, told for lists of bytes, wherever it lies. -/
namespace Go.Proofs.YtgegjcnjlibfdabGreat
open Go.RowKit
theorem slice_from (b off len cap k : Nat) (hk : k ≤ len) (hc : len ≤ cap) :
    ∃ o', (∀ W : World, (Instr.slice 28 (.slice (some ⟨b, off, none⟩) len cap) (some (.int .i64 (k : Int))) none none).run Tryz.prog W = .ok (.slice (some ⟨b, o', none⟩) (len - k) (cap - k)) W) ∧
      (∀ (W : World) (bs : List UInt8), BsAt W (some ⟨b, off, none⟩) len cap bs → BsAt W (some ⟨b, o', none⟩) (len - k) (cap - k) (bs.drop k)) := by
  by_cases h0 : cap - k = 0
  · refine ⟨off, fun W => ?_, fun W bs h => ?_⟩
    · simp [Instr.slice, run_underlying Tryz.underlying28, go_sem]
      rw [if_pos hk, if_pos (by omega)]
    · have hs := h.size
      have hm := h.max
      obtain rfl : k = len := by omega
      rw [Nat.sub_self, List.drop_eq_nil_of_le (by omega)]
      exact BsAt.empty _ _ (by omega)
  · refine ⟨off + k, fun W => ?_, fun W bs h => ?_⟩
    · simp [Instr.slice, run_underlying Tryz.underlying28, go_sem]
      rw [if_pos hk, if_neg (by omega)]
    · have := h.sub k (len - k) (by omega)
      rwa [List.take_of_length_le (by have := h.size; simp; omega)] at this
end Go.Proofs.YtgegjcnjlibfdabGreat
/- What 'b[k:]' gives, for whatever slice of bytes, nil too. -/
namespace Go.Proofs.YtgegjcnjlibfdabGreat
open Go.RowKit
theorem slice_any {w0 : World} {bs0 : List UInt8} {a : Option Addr} {len cap : Nat} (h : BsAt w0 a len cap bs0) (k : Nat) (hk : k ≤ len) :
    ∃ a', (∀ W : World, (Instr.slice 28 (.slice a len cap) (some (.int .i64 (k : Int))) none none).run Tryz.prog W = .ok (.slice a' (len - k) (cap - k)) W) ∧
      (∀ (W : World) (bs : List UInt8), BsAt W a len cap bs → BsAt W a' (len - k) (cap - k) (bs.drop k)) := by
  have hle := h.le
  have hmx := h.max
  by_cases h0 : len = 0
  · subst h0
    obtain rfl : k = 0 := by omega
    cases a with
    | none =>
      obtain rfl := h.bare rfl
      refine ⟨none, fun W => ?_, fun W bs hb => hb⟩
      simp [Instr.slice, run_underlying Tryz.underlying28, go_sem]
    | some ad =>
      obtain ⟨b, off, s⟩ := ad
      by_cases hc : cap = 0
      · subst hc
        refine ⟨some ⟨b, off, s⟩, fun W => ?_, fun W bs hb => hb⟩
        simp [Instr.slice, run_underlying Tryz.underlying28, go_sem]
      · refine ⟨some ((⟨b, off, s⟩ : Addr).add 0), fun W => ?_, fun W bs hb => ?_⟩
        · simp [Instr.slice, run_underlying Tryz.underlying28, go_sem]
          try rw [if_neg hc]
        · have := hb.size
          rw [List.eq_nil_of_length_eq_zero this]
          exact BsAt.empty _ _ (by omega)
  · obtain ⟨b, off, rfl, _⟩ := h.here (by omega)
    obtain ⟨o', h1, h2⟩ := slice_from b off len cap k hk hle
    exact ⟨some ⟨b, o', none⟩, h1, h2⟩
end Go.Proofs.YtgegjcnjlibfdabGreat
