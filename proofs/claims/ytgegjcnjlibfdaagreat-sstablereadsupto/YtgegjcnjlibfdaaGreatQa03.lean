/- What Go's bit operations on unsigned numbers are in natural numbers. -/
import Derived.WalkKit
import Derived.Test.YtgegjcnjlibfdaaGreatChecked
import Derived.Test.YtgegjcnjlibfdaaGreatQa01
import Derived.Test.YtgegjcnjlibfdaaGreatQa00
import Derived.Test.YtgegjcnjlibfdaaGreatQa02
import Derived.Test.YtgegjcnjlibfdaaGreatKeyPlain
namespace Go.Proofs.YtgegjcnjlibfdaaGreat
theorem nbits_or8 (a b : Nat) (ha : a < 256) (hb : b < 256) : bits .or .u8 (a : Int) (b : Int) = ((a ||| b : Nat) : Int) := by
  have h : a ||| b < 2 ^ 8 := Nat.or_lt_two_pow ha hb
  have e : (BitVec.ofInt IntKind.u8.bits (a : Int) ||| BitVec.ofInt IntKind.u8.bits (b : Int)).toNat = a ||| b := by
    show (BitVec.ofInt 8 (a : Int) ||| BitVec.ofInt 8 (b : Int)).toNat = _
    rw [BitVec.toNat_or, BitVec.ofInt_natCast, BitVec.ofInt_natCast, BitVec.toNat_ofNat, BitVec.toNat_ofNat, Nat.mod_eq_of_lt ha, Nat.mod_eq_of_lt hb]
  unfold bits
  simp only [e]
  simp [IntKind.wrap, IntKind.bits, IntKind.signed]
  omega
theorem nbits_or32 (a b : Nat) (ha : a < 4294967296) (hb : b < 4294967296) : bits .or .u32 (a : Int) (b : Int) = ((a ||| b : Nat) : Int) := by
  have h : a ||| b < 2 ^ 32 := Nat.or_lt_two_pow ha hb
  have e : (BitVec.ofInt IntKind.u32.bits (a : Int) ||| BitVec.ofInt IntKind.u32.bits (b : Int)).toNat = a ||| b := by
    show (BitVec.ofInt 32 (a : Int) ||| BitVec.ofInt 32 (b : Int)).toNat = _
    rw [BitVec.toNat_or, BitVec.ofInt_natCast, BitVec.ofInt_natCast, BitVec.toNat_ofNat, BitVec.toNat_ofNat, Nat.mod_eq_of_lt ha, Nat.mod_eq_of_lt hb]
  unfold bits
  simp only [e]
  simp [IntKind.wrap, IntKind.bits, IntKind.signed]
  omega
theorem nbits_or64 (a b : Nat) (ha : a < 18446744073709551616) (hb : b < 18446744073709551616) : bits .or .u64 (a : Int) (b : Int) = ((a ||| b : Nat) : Int) := by
  have h : a ||| b < 2 ^ 64 := Nat.or_lt_two_pow ha hb
  have e : (BitVec.ofInt IntKind.u64.bits (a : Int) ||| BitVec.ofInt IntKind.u64.bits (b : Int)).toNat = a ||| b := by
    show (BitVec.ofInt 64 (a : Int) ||| BitVec.ofInt 64 (b : Int)).toNat = _
    rw [BitVec.toNat_or, BitVec.ofInt_natCast, BitVec.ofInt_natCast, BitVec.toNat_ofNat, BitVec.toNat_ofNat, Nat.mod_eq_of_lt ha, Nat.mod_eq_of_lt hb]
  unfold bits
  simp only [e]
  simp [IntKind.wrap, IntKind.bits, IntKind.signed]
  omega
theorem nbits_xor8 (a b : Nat) (ha : a < 256) (hb : b < 256) : bits .xor .u8 (a : Int) (b : Int) = ((a ^^^ b : Nat) : Int) := by
  have h : a ^^^ b < 2 ^ 8 := Nat.xor_lt_two_pow ha hb
  have e : (BitVec.ofInt IntKind.u8.bits (a : Int) ^^^ BitVec.ofInt IntKind.u8.bits (b : Int)).toNat = a ^^^ b := by
    show (BitVec.ofInt 8 (a : Int) ^^^ BitVec.ofInt 8 (b : Int)).toNat = _
    rw [BitVec.toNat_xor, BitVec.ofInt_natCast, BitVec.ofInt_natCast, BitVec.toNat_ofNat, BitVec.toNat_ofNat, Nat.mod_eq_of_lt ha, Nat.mod_eq_of_lt hb]
  unfold bits
  simp only [e]
  simp [IntKind.wrap, IntKind.bits, IntKind.signed]
  omega
theorem nbits_xor32 (a b : Nat) (ha : a < 4294967296) (hb : b < 4294967296) : bits .xor .u32 (a : Int) (b : Int) = ((a ^^^ b : Nat) : Int) := by
  have h : a ^^^ b < 2 ^ 32 := Nat.xor_lt_two_pow ha hb
  have e : (BitVec.ofInt IntKind.u32.bits (a : Int) ^^^ BitVec.ofInt IntKind.u32.bits (b : Int)).toNat = a ^^^ b := by
    show (BitVec.ofInt 32 (a : Int) ^^^ BitVec.ofInt 32 (b : Int)).toNat = _
    rw [BitVec.toNat_xor, BitVec.ofInt_natCast, BitVec.ofInt_natCast, BitVec.toNat_ofNat, BitVec.toNat_ofNat, Nat.mod_eq_of_lt ha, Nat.mod_eq_of_lt hb]
  unfold bits
  simp only [e]
  simp [IntKind.wrap, IntKind.bits, IntKind.signed]
  omega
theorem nbits_xor64 (a b : Nat) (ha : a < 18446744073709551616) (hb : b < 18446744073709551616) : bits .xor .u64 (a : Int) (b : Int) = ((a ^^^ b : Nat) : Int) := by
  have h : a ^^^ b < 2 ^ 64 := Nat.xor_lt_two_pow ha hb
  have e : (BitVec.ofInt IntKind.u64.bits (a : Int) ^^^ BitVec.ofInt IntKind.u64.bits (b : Int)).toNat = a ^^^ b := by
    show (BitVec.ofInt 64 (a : Int) ^^^ BitVec.ofInt 64 (b : Int)).toNat = _
    rw [BitVec.toNat_xor, BitVec.ofInt_natCast, BitVec.ofInt_natCast, BitVec.toNat_ofNat, BitVec.toNat_ofNat, Nat.mod_eq_of_lt ha, Nat.mod_eq_of_lt hb]
  unfold bits
  simp only [e]
  simp [IntKind.wrap, IntKind.bits, IntKind.signed]
  omega
theorem nbits_and8 (a b : Nat) (ha : a < 256) (hb : b < 256) : bits .and .u8 (a : Int) (b : Int) = ((a &&& b : Nat) : Int) := by
  have h : a &&& b < 2 ^ 8 := Nat.and_lt_two_pow _ hb
  have e : (BitVec.ofInt IntKind.u8.bits (a : Int) &&& BitVec.ofInt IntKind.u8.bits (b : Int)).toNat = a &&& b := by
    show (BitVec.ofInt 8 (a : Int) &&& BitVec.ofInt 8 (b : Int)).toNat = _
    rw [BitVec.toNat_and, BitVec.ofInt_natCast, BitVec.ofInt_natCast, BitVec.toNat_ofNat, BitVec.toNat_ofNat, Nat.mod_eq_of_lt ha, Nat.mod_eq_of_lt hb]
  unfold bits
  simp only [e]
  simp [IntKind.wrap, IntKind.bits, IntKind.signed]
  omega
theorem nbits_and32 (a b : Nat) (ha : a < 4294967296) (hb : b < 4294967296) : bits .and .u32 (a : Int) (b : Int) = ((a &&& b : Nat) : Int) := by
  have h : a &&& b < 2 ^ 32 := Nat.and_lt_two_pow _ hb
  have e : (BitVec.ofInt IntKind.u32.bits (a : Int) &&& BitVec.ofInt IntKind.u32.bits (b : Int)).toNat = a &&& b := by
    show (BitVec.ofInt 32 (a : Int) &&& BitVec.ofInt 32 (b : Int)).toNat = _
    rw [BitVec.toNat_and, BitVec.ofInt_natCast, BitVec.ofInt_natCast, BitVec.toNat_ofNat, BitVec.toNat_ofNat, Nat.mod_eq_of_lt ha, Nat.mod_eq_of_lt hb]
  unfold bits
  simp only [e]
  simp [IntKind.wrap, IntKind.bits, IntKind.signed]
  omega
theorem nbits_and64 (a b : Nat) (ha : a < 18446744073709551616) (hb : b < 18446744073709551616) : bits .and .u64 (a : Int) (b : Int) = ((a &&& b : Nat) : Int) := by
  have h : a &&& b < 2 ^ 64 := Nat.and_lt_two_pow _ hb
  have e : (BitVec.ofInt IntKind.u64.bits (a : Int) &&& BitVec.ofInt IntKind.u64.bits (b : Int)).toNat = a &&& b := by
    show (BitVec.ofInt 64 (a : Int) &&& BitVec.ofInt 64 (b : Int)).toNat = _
    rw [BitVec.toNat_and, BitVec.ofInt_natCast, BitVec.ofInt_natCast, BitVec.toNat_ofNat, BitVec.toNat_ofNat, Nat.mod_eq_of_lt ha, Nat.mod_eq_of_lt hb]
  unfold bits
  simp only [e]
  simp [IntKind.wrap, IntKind.bits, IntKind.signed]
  omega
theorem nbits_or8_128 : ∀ a : Fin 256, bits .or .u8 ((a.val : Nat) : Int) 128 = (((a.val % 128 + 128 : Nat)) : Int) := by decide +kernel
theorem nbits_andNot8_128 : ∀ a : Fin 256, bits .andNot .u8 ((a.val : Nat) : Int) 128 = (((a.val % 128 : Nat)) : Int) := by decide +kernel
end Go.Proofs.YtgegjcnjlibfdaaGreat
/- The contract of codec's fits. -/
namespace Go.Proofs.YtgegjcnjlibfdaaGreat
open Go.RowKit

def fitsB (n : Int) : Bool := decide (1 ≤ n) && decide (n ≤ 8)
set_option maxHeartbeats 400000 in
theorem fits_any (n : Int) (w : World) : Calls Tryz.prog 98 #[.int .i64 n] w fun e w' => e = .returned (.bool (fitsB n)) ∧ w' = w := by
  by_cases h1 : 1 ≤ n
  · by_cases h2 : n ≤ 8
    · go_enter Tryz.func98, Tryz.ntmps98
      go_wp2
      go_ret
      exact ⟨ret1 (by simp [fitsB, h1, h2]), rfl⟩
    · have h2' : decide (n ≤ 8) = false := by simpa using h2
      go_enter Tryz.func98, Tryz.ntmps98
      go_wp2
      go_ret
      exact ⟨ret1 (by simp [fitsB, h1, h2]), rfl⟩
  · have h1' : decide (1 ≤ n) = false := by simpa using h1
    go_enter Tryz.func98, Tryz.ntmps98
    go_wp2
    go_ret
    exact ⟨ret1 (by simp [fitsB]; omega), rfl⟩
theorem fits_yes (n : Int) (w : World) (h1 : 1 ≤ n) (h2 : n ≤ 8) : Calls Tryz.prog 98 #[.int .i64 n] w fun e w' => e = .returned (.bool true) ∧ w' = w := by
  have := fits_any n w
  rw [show fitsB n = true by simp [fitsB, h1, h2]] at this
  exact this
theorem fits_no (n : Int) (w : World) (h : n < 1 ∨ 8 < n) : Calls Tryz.prog 98 #[.int .i64 n] w fun e w' => e = .returned (.bool false) ∧ w' = w := by
  have := fits_any n w
  rw [show fitsB n = false by simp [fitsB]; omega] at this
  exact this
end Go.Proofs.YtgegjcnjlibfdaaGreat
/- The contract of codec.PutFixed: what it lays behind bytes, in new memory. -/
namespace Go.Proofs.YtgegjcnjlibfdaaGreat
open Go.RowKit

set_option maxRecDepth 100000 in
set_option maxHeartbeats 400000 in
theorem putFixed_any (a : Option Addr) (len cap : Nat) (bs : List UInt8) (n : Nat) (size : Int) (w : World) (h : BsAt w a len cap bs) (_hn : n < 18446744073709551616) (hl : len + 10 ≤ 140737488355328) :
    Calls Tryz.prog 60 #[.slice a len cap, .int .u64 (n : Int), .int .i64 size] w fun e w' => ∃ a' c', e = .returned (.slice a' (len + (fxPut n size).length) c') ∧ OwnB w' w.heap.size a' (len + (fxPut n size).length) c' (bs ++ fxPut n size) ∧ Below w.heap.size w w' := by
  by_cases hs : size < 1 ∨ 8 < size
  · have HE : Hid (fxPut n size = []) := by unfold fxPut Hid; rw [if_pos hs]
    go_enter Tryz.func60, Tryz.ntmps60
    go_wp2_with (first
      | (go_at_call 98; refine (fits_no _ _ hs).mono ?_; rintro e w1 ⟨rfl, rfl⟩)
      | (go_at_call 99; refine (own_any _ _ _ bs 0 _ h (by omega) (by omega)).mono ?_; rintro e w2 ⟨a2, c2, rfl, ho2, hb2⟩))
    go_ret
    rw [HE.out]
    exact ⟨a2, c2, ret1 (by simp), by simpa using ho2, hb2⟩
  · have hs1 : 1 ≤ size := by omega
    have hs2 : size ≤ 8 := by omega
    obtain ⟨k, rfl⟩ : ∃ k : Nat, size = (k : Int) := ⟨size.toNat, by omega⟩
    have HE : Hid (fxPut n k = fxEnc n k) := by unfold fxPut Hid; rw [if_neg hs]; simp
    clear hs
    go_enter Tryz.func60, Tryz.ntmps60
    go_wp2_with (first
      | (go_at_call 98; refine (fits_yes _ _ hs1 hs2).mono ?_; rintro e w1 ⟨rfl, rfl⟩)
      | (go_at_call 99; refine (own_any _ _ _ bs _ _ h (by omega) (by omega)).mono ?_; rintro e w2 ⟨a2, c2, rfl, ho2, hb2⟩))
    have hsz := hb2.size
    go_loopw [7, 18] (fun v i wr => ∃ (a3 : Option Addr) (c3 j : Nat), j ≤ k ∧ v = .slice a3 (len + j) c3 ∧ i = .int .i64 j ∧ Hid (OwnB wr w1.heap.size a3 (len + j) c3 (bs ++ fxEnc n j)) ∧ Hid (Below w1.heap.size w1 wr)) (fun _ i _ => k - (intOf i).toNat)
    case atStart => exact ⟨a2, c2, 0, by omega, rfl, rfl, by simpa [fxEnc, Hid] using ho2, hb2⟩
    case round =>
      obtain ⟨a3, c3, j, hj, rfl, rfl, HO, HB⟩ := hrel
      have hsr := HB.out.size
      by_cases hlt : j < k
      · go_wp2_with (first
          | (at_builtin; refine wpList_app _ rfl _ _ rfl w1.heap.size _ _ _ (bs ++ fxEnc n j) rfl (HO.out.alloc _) _ _ _ [loByte (n / 2 ^ (8 * j))] rfl (BsAt.one (by rw [loByte_toNat]; simp)) (by omega) (by simp; omega) ?_))
        intro a4 c4 w4 ho4 hb4 _
        have HO4 : Hid (OwnB w4 w1.heap.size a4 (len + j + 1) c4 (bs ++ (fxEnc n j ++ [loByte (n / 2 ^ (8 * j))]))) := by unfold Hid; simpa using ho4
        have HB4 : Hid (Below w1.heap.size w1 w4) := (HB.out.alloc hsr _).trans hb4
        clear ho4 hb4
        go_wp2
        go_roundw
        case rel => exact ⟨a4, c4, j + 1, by omega, rfl, by go_num, HO4.out, HB4.out⟩
        case measure => simp [intOf]; omega
      · obtain rfl : j = k := by omega
        go_wp2
        go_ret
        rw [HE.out, fxEnc_length]
        exact ⟨a3, c3, ret1 rfl, HO.out, HB.out⟩
end Go.Proofs.YtgegjcnjlibfdaaGreat
/- A string as bytes: a new row of its letters. -/
namespace Go.Proofs.YtgegjcnjlibfdaaGreat
open Go.RowKit

/-- A string as bytes: a new row that reads as its letters. -/
theorem BsAt.ofStr (w : World) (s : ByteArray) (cap : Nat) (fz : Nat × Nat) (hs : s.size ≤ cap) (hc : cap ≤ maxLen) : BsAt (w.drew.alloc (.cells (bytesRow s cap) 5 fz)) (some ⟨w.heap.size, 0, none⟩) s.size cap s.data.toList := by
  have hl : s.data.toList.length = s.size := by rw [Array.length_toList]; rfl
  refine ⟨hl, hs, hc, by simp, fun _ => ⟨w.heap.size, 0, rfl, fun j hj => ?_⟩⟩
  rw [cell_of_row (w.drew.alloc (.cells (bytesRow s cap) 5 fz)) w.heap.size (0 + j) (bytesRow s cap) 5 fz (heap_alloc_new w.drew _)]
  have hj' : j < s.data.size := hj
  simp [bytesRow, List.getD, Array.getElem?_append, hj]
end Go.Proofs.YtgegjcnjlibfdaaGreat
/- The contract of ikey.Encode: the bytes of a key, as the plain function keyEnc tells them. -/
namespace Go.Proofs.YtgegjcnjlibfdaaGreat
open Go.RowKit

theorem key_or (q : Nat) (k : Int) (h1 : q ≤ 72057594037927935) (h2 : k = 0 ∨ k = 1) : bits .or .u64 ((q : Int) * 256) (IntKind.u64.wrap k) = ((q * 256 + k.toNat : Nat) : Int) := by
  obtain ⟨j, rfl, hj⟩ : ∃ j : Nat, k = (j : Int) ∧ j ≤ 1 := ⟨k.toNat, by omega, by omega⟩
  rw [show IntKind.u64.wrap (j : Int) = (j : Int) by simp [IntKind.wrap, IntKind.bits, IntKind.signed]; omega, show (q : Int) * 256 = ((q * 256 : Nat) : Int) by omega, nbits_or64 _ _ (by omega) (by omega)]
  rw [show q * 256 = q <<< 8 by rw [Nat.shiftLeft_eq], ← Nat.shiftLeft_add_eq_or_of_lt (show j < 2 ^ 8 by omega)]
  rfl

set_option maxRecDepth 100000 in
set_option maxHeartbeats 400000 in
theorem encode_any (s : ByteArray) (q : Nat) (k : Int) (w : World) (hs : s.size ≤ 140737488351232) :
    Calls Tryz.prog 100 #[.agg #[.string s, .int .u64 (q : Int), .int .i64 k]] w fun e w' => ∃ a' c', e = .returned (.tuple #[.slice a' (keyEnc s.data.toList q k).length c', .int .i64 ((chk s.size q k : Nat) : Int)]) ∧ BsAt w' a' (keyEnc s.data.toList q k).length c' (keyEnc s.data.toList q k) ∧ Below w.heap.size w w' := by
  have hsl : s.data.toList.length = s.size := by rw [Array.length_toList]; rfl
  have hb0 : Below w.heap.size w (w.alloc (.cells #[.string s, .int .u64 (q : Int), .int .i64 k] 52)) := (Below.refl _ _).alloc (Nat.le_refl _) _
  by_cases h : chk s.size q k = 0
  · have hy := keyEnc_yes (s := s.data.toList) (q := q) (k := k) (by rw [hsl]; exact h)
    obtain ⟨h1, h2, h3⟩ := chk_zero h
    have HE : Hid (keyEnc s.data.toList q k = s.data.toList ++ fxEnc (q * 256 + k.toNat) 8) := hy
    have HL : Hid (s.data.toList.length = s.size) := hsl
    have HK : Hid (chk s.size q k = 0) := h
    have HO : Hid (_ = _) := key_or q k h2 h3
    have hn : q * 256 + k.toNat < 18446744073709551616 := by omega
    have hck := fun W => check_any s q k W (by omega)
    rw [h] at hck
    clear h h3 hy hsl
    have hcv : ∀ W : World, (convert 9 27 (.string s)).run Tryz.prog W = .ok (.slice (some ⟨W.heap.size, 0, none⟩) s.size (grownCap W s.size 0 5))
        (W.drew.alloc (.cells (bytesRow s (grownCap W s.size 0 5)) 5 ((bytesRow s (grownCap W s.size 0 5)).size, (bytesRow s (grownCap W s.size 0 5)).size + 1))) :=
      fun W => run_bytes_of_string W 9 27 5 s Tryz.underlying9 Tryz.underlying27 Tryz.underlying5
    go_enter Tryz.func100, Tryz.ntmps100
    go_wp2_with (first
      | (go_at_call 96; refine (hck _).mono ?_; rintro e w1 ⟨rfl, hb1⟩
         have f0 : w1.cell? ⟨w.heap.size, 0, none⟩ = some (.string s) := by rw [hb1.cell (by simp)]; simp
         have hz1 : w.heap.size < w1.heap.size := by have := hb1.size; simp at this; omega
         have f1 : w1.cell? ⟨w.heap.size, 1, none⟩ = some (.int .u64 (q : Int)) := by rw [hb1.cell (by simp)]; simp
         have f2 : w1.cell? ⟨w.heap.size, 2, none⟩ = some (.int .i64 k) := by rw [hb1.cell (by simp)]; simp)
      | fail)
    rw [HO.out]
    refine (putFixed_any _ _ _ s.data.toList (q * 256 + k.toNat) 8 _ (BsAt.ofStr w1 s _ _ (grownCap_ge _ _ _ _) (grownCap_le_maxLen _ _ _ _ (by unfold maxLen; omega))) hn (by omega)).mono ?_
    rintro e w2 ⟨a2, c2, rfl, ho2, hb2⟩
    have hB : Below w.heap.size w w2 := by
      have h3 := hb0.trans (hb1.mono hb0.size)
      exact ((h3.alloc h3.size _).drew).trans (hb2.mono (by simp; omega))
    clear hb2
    go_wp2
    go_ret2
    rw [HE.out, List.length_append, HL.out, HK.out]
    exact ⟨a2, c2, ret2 rfl rfl, ho2.bs, hB⟩
  · have HE : Hid (keyEnc s.data.toList q k = []) := keyEnc_no (by rw [hsl]; exact h)
    have hne : (((chk s.size q k : Nat) : Int) != 0) = true := by simp; omega
    have hck := fun W => check_any s q k W (by omega)
    generalize chk s.size q k = c at hne hck
    clear h
    go_enter Tryz.func100, Tryz.ntmps100
    go_wp2_with (go_at_call 96; refine (hck _).mono ?_; rintro e w1 ⟨rfl, hb1⟩)
    go_ret2
    rw [HE.out]
    exact ⟨none, 0, ret2 rfl rfl, BsAt.nil _, hb0.trans (hb1.mono hb0.size)⟩
end Go.Proofs.YtgegjcnjlibfdaaGreat
/- Bytes from a place on: what 'b[k:]' gives, told for lists of bytes, wherever it lies. -/
namespace Go.Proofs.YtgegjcnjlibfdaaGreat
open Go.RowKit
theorem slice_from (b off len cap k : Nat) (hk : k ≤ len) (hc : len ≤ cap) :
    ∃ o', (∀ W : World, (Instr.slice 27 (.slice (some ⟨b, off, none⟩) len cap) (some (.int .i64 (k : Int))) none none).run Tryz.prog W = .ok (.slice (some ⟨b, o', none⟩) (len - k) (cap - k)) W) ∧
      (∀ (W : World) (bs : List UInt8), BsAt W (some ⟨b, off, none⟩) len cap bs → BsAt W (some ⟨b, o', none⟩) (len - k) (cap - k) (bs.drop k)) := by
  by_cases h0 : cap - k = 0
  · refine ⟨off, fun W => ?_, fun W bs h => ?_⟩
    · simp [Instr.slice, run_underlying Tryz.underlying27, go_sem]
      rw [if_pos hk, if_pos (by omega)]
    · have hs := h.size
      have hm := h.max
      obtain rfl : k = len := by omega
      rw [Nat.sub_self, List.drop_eq_nil_of_le (by omega)]
      exact BsAt.empty _ _ (by omega)
  · refine ⟨off + k, fun W => ?_, fun W bs h => ?_⟩
    · simp [Instr.slice, run_underlying Tryz.underlying27, go_sem]
      rw [if_pos hk, if_neg (by omega)]
    · have := h.sub k (len - k) (by omega)
      rwa [List.take_of_length_le (by have := h.size; simp; omega)] at this
end Go.Proofs.YtgegjcnjlibfdaaGreat
/- What 'b[k:]' gives, for whatever slice of bytes, nil too. -/
namespace Go.Proofs.YtgegjcnjlibfdaaGreat
open Go.RowKit
theorem slice_any {w0 : World} {bs0 : List UInt8} {a : Option Addr} {len cap : Nat} (h : BsAt w0 a len cap bs0) (k : Nat) (hk : k ≤ len) :
    ∃ a', (∀ W : World, (Instr.slice 27 (.slice a len cap) (some (.int .i64 (k : Int))) none none).run Tryz.prog W = .ok (.slice a' (len - k) (cap - k)) W) ∧
      (∀ (W : World) (bs : List UInt8), BsAt W a len cap bs → BsAt W a' (len - k) (cap - k) (bs.drop k)) := by
  have hle := h.le
  have hmx := h.max
  by_cases h0 : len = 0
  · subst h0
    obtain rfl : k = 0 := by omega
    cases a with
    | none =>
      obtain rfl := h.bare rfl
      refine ⟨none, fun W => ?_, fun W bs hb => hb⟩
      simp [Instr.slice, run_underlying Tryz.underlying27, go_sem]
    | some ad =>
      obtain ⟨b, off, s⟩ := ad
      by_cases hc : cap = 0
      · subst hc
        refine ⟨some ⟨b, off, s⟩, fun W => ?_, fun W bs hb => hb⟩
        simp [Instr.slice, run_underlying Tryz.underlying27, go_sem]
      · refine ⟨some ((⟨b, off, s⟩ : Addr).add 0), fun W => ?_, fun W bs hb => ?_⟩
        · simp [Instr.slice, run_underlying Tryz.underlying27, go_sem]
          try rw [if_neg hc]
        · have := hb.size
          rw [List.eq_nil_of_length_eq_zero this]
          exact BsAt.empty _ _ (by omega)
  · obtain ⟨b, off, rfl, _⟩ := h.here (by omega)
    obtain ⟨o', h1, h2⟩ := slice_from b off len cap k hk hle
    exact ⟨some ⟨b, o', none⟩, h1, h2⟩
end Go.Proofs.YtgegjcnjlibfdaaGreat
