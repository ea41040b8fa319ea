/- What Go's bit operations on unsigned numbers are in natural numbers. -/
import Derived.WalkKit
import Derived.Test.YtiflepadjcpjjaaChecked
import Derived.Test.YtiflepadjcpjjaaQa01
import Derived.Test.YtiflepadjcpjjaaQa00
namespace Go.Proofs.Ytiflepadjcpjjaa
theorem nbits_or8 (a b : Nat) (ha : a < 256) (hb : b < 256) : bits .or .u8 (a : Int) (b : Int) = ((a ||| b : Nat) : Int) := by
  have h : a ||| b < 2 ^ 8 := Nat.or_lt_two_pow ha hb
  have e : (BitVec.ofInt IntKind.u8.bits (a : Int) ||| BitVec.ofInt IntKind.u8.bits (b : Int)).toNat = a ||| b := by
    show (BitVec.ofInt 8 (a : Int) ||| BitVec.ofInt 8 (b : Int)).toNat = _
    rw [BitVec.toNat_or, BitVec.ofInt_natCast, BitVec.ofInt_natCast, BitVec.toNat_ofNat, BitVec.toNat_ofNat, Nat.mod_eq_of_lt ha, Nat.mod_eq_of_lt hb]
  unfold bits
  simp only [e]
  simp [IntKind.wrap, IntKind.bits, IntKind.signed]
  omega
theorem nbits_or32 (a b : Nat) (ha : a < 4294967296) (hb : b < 4294967296) : bits .or .u32 (a : Int) (b : Int) = ((a ||| b : Nat) : Int) := by
  have h : a ||| b < 2 ^ 32 := Nat.or_lt_two_pow ha hb
  have e : (BitVec.ofInt IntKind.u32.bits (a : Int) ||| BitVec.ofInt IntKind.u32.bits (b : Int)).toNat = a ||| b := by
    show (BitVec.ofInt 32 (a : Int) ||| BitVec.ofInt 32 (b : Int)).toNat = _
    rw [BitVec.toNat_or, BitVec.ofInt_natCast, BitVec.ofInt_natCast, BitVec.toNat_ofNat, BitVec.toNat_ofNat, Nat.mod_eq_of_lt ha, Nat.mod_eq_of_lt hb]
  unfold bits
  simp only [e]
  simp [IntKind.wrap, IntKind.bits, IntKind.signed]
  omega
theorem nbits_or64 (a b : Nat) (ha : a < 18446744073709551616) (hb : b < 18446744073709551616) : bits .or .u64 (a : Int) (b : Int) = ((a ||| b : Nat) : Int) := by
  have h : a ||| b < 2 ^ 64 := Nat.or_lt_two_pow ha hb
  have e : (BitVec.ofInt IntKind.u64.bits (a : Int) ||| BitVec.ofInt IntKind.u64.bits (b : Int)).toNat = a ||| b := by
    show (BitVec.ofInt 64 (a : Int) ||| BitVec.ofInt 64 (b : Int)).toNat = _
    rw [BitVec.toNat_or, BitVec.ofInt_natCast, BitVec.ofInt_natCast, BitVec.toNat_ofNat, BitVec.toNat_ofNat, Nat.mod_eq_of_lt ha, Nat.mod_eq_of_lt hb]
  unfold bits
  simp only [e]
  simp [IntKind.wrap, IntKind.bits, IntKind.signed]
  omega
theorem nbits_xor8 (a b : Nat) (ha : a < 256) (hb : b < 256) : bits .xor .u8 (a : Int) (b : Int) = ((a ^^^ b : Nat) : Int) := by
  have h : a ^^^ b < 2 ^ 8 := Nat.xor_lt_two_pow ha hb
  have e : (BitVec.ofInt IntKind.u8.bits (a : Int) ^^^ BitVec.ofInt IntKind.u8.bits (b : Int)).toNat = a ^^^ b := by
    show (BitVec.ofInt 8 (a : Int) ^^^ BitVec.ofInt 8 (b : Int)).toNat = _
    rw [BitVec.toNat_xor, BitVec.ofInt_natCast, BitVec.ofInt_natCast, BitVec.toNat_ofNat, BitVec.toNat_ofNat, Nat.mod_eq_of_lt ha, Nat.mod_eq_of_lt hb]
  unfold bits
  simp only [e]
  simp [IntKind.wrap, IntKind.bits, IntKind.signed]
  omega
theorem nbits_xor32 (a b : Nat) (ha : a < 4294967296) (hb : b < 4294967296) : bits .xor .u32 (a : Int) (b : Int) = ((a ^^^ b : Nat) : Int) := by
  have h : a ^^^ b < 2 ^ 32 := Nat.xor_lt_two_pow ha hb
  have e : (BitVec.ofInt IntKind.u32.bits (a : Int) ^^^ BitVec.ofInt IntKind.u32.bits (b : Int)).toNat = a ^^^ b := by
    show (BitVec.ofInt 32 (a : Int) ^^^ BitVec.ofInt 32 (b : Int)).toNat = _
    rw [BitVec.toNat_xor, BitVec.ofInt_natCast, BitVec.ofInt_natCast, BitVec.toNat_ofNat, BitVec.toNat_ofNat, Nat.mod_eq_of_lt ha, Nat.mod_eq_of_lt hb]
  unfold bits
  simp only [e]
  simp [IntKind.wrap, IntKind.bits, IntKind.signed]
  omega
theorem nbits_xor64 (a b : Nat) (ha : a < 18446744073709551616) (hb : b < 18446744073709551616) : bits .xor .u64 (a : Int) (b : Int) = ((a ^^^ b : Nat) : Int) := by
  have h : a ^^^ b < 2 ^ 64 := Nat.xor_lt_two_pow ha hb
  have e : (BitVec.ofInt IntKind.u64.bits (a : Int) ^^^ BitVec.ofInt IntKind.u64.bits (b : Int)).toNat = a ^^^ b := by
    show (BitVec.ofInt 64 (a : Int) ^^^ BitVec.ofInt 64 (b : Int)).toNat = _
    rw [BitVec.toNat_xor, BitVec.ofInt_natCast, BitVec.ofInt_natCast, BitVec.toNat_ofNat, BitVec.toNat_ofNat, Nat.mod_eq_of_lt ha, Nat.mod_eq_of_lt hb]
  unfold bits
  simp only [e]
  simp [IntKind.wrap, IntKind.bits, IntKind.signed]
  omega
theorem nbits_and8 (a b : Nat) (ha : a < 256) (hb : b < 256) : bits .and .u8 (a : Int) (b : Int) = ((a &&& b : Nat) : Int) := by
  have h : a &&& b < 2 ^ 8 := Nat.and_lt_two_pow _ hb
  have e : (BitVec.ofInt IntKind.u8.bits (a : Int) &&& BitVec.ofInt IntKind.u8.bits (b : Int)).toNat = a &&& b := by
    show (BitVec.ofInt 8 (a : Int) &&& BitVec.ofInt 8 (b : Int)).toNat = _
    rw [BitVec.toNat_and, BitVec.ofInt_natCast, BitVec.ofInt_natCast, BitVec.toNat_ofNat, BitVec.toNat_ofNat, Nat.mod_eq_of_lt ha, Nat.mod_eq_of_lt hb]
  unfold bits
  simp only [e]
  simp [IntKind.wrap, IntKind.bits, IntKind.signed]
  omega
theorem nbits_and32 (a b : Nat) (ha : a < 4294967296) (hb : b < 4294967296) : bits .and .u32 (a : Int) (b : Int) = ((a &&& b : Nat) : Int) := by
  have h : a &&& b < 2 ^ 32 := Nat.and_lt_two_pow _ hb
  have e : (BitVec.ofInt IntKind.u32.bits (a : Int) &&& BitVec.ofInt IntKind.u32.bits (b : Int)).toNat = a &&& b := by
    show (BitVec.ofInt 32 (a : Int) &&& BitVec.ofInt 32 (b : Int)).toNat = _
    rw [BitVec.toNat_and, BitVec.ofInt_natCast, BitVec.ofInt_natCast, BitVec.toNat_ofNat, BitVec.toNat_ofNat, Nat.mod_eq_of_lt ha, Nat.mod_eq_of_lt hb]
  unfold bits
  simp only [e]
  simp [IntKind.wrap, IntKind.bits, IntKind.signed]
  omega
theorem nbits_and64 (a b : Nat) (ha : a < 18446744073709551616) (hb : b < 18446744073709551616) : bits .and .u64 (a : Int) (b : Int) = ((a &&& b : Nat) : Int) := by
  have h : a &&& b < 2 ^ 64 := Nat.and_lt_two_pow _ hb
  have e : (BitVec.ofInt IntKind.u64.bits (a : Int) &&& BitVec.ofInt IntKind.u64.bits (b : Int)).toNat = a &&& b := by
    show (BitVec.ofInt 64 (a : Int) &&& BitVec.ofInt 64 (b : Int)).toNat = _
    rw [BitVec.toNat_and, BitVec.ofInt_natCast, BitVec.ofInt_natCast, BitVec.toNat_ofNat, BitVec.toNat_ofNat, Nat.mod_eq_of_lt ha, Nat.mod_eq_of_lt hb]
  unfold bits
  simp only [e]
  simp [IntKind.wrap, IntKind.bits, IntKind.signed]
  omega
theorem nbits_or8_128 : ∀ a : Fin 256, bits .or .u8 ((a.val : Nat) : Int) 128 = (((a.val % 128 + 128 : Nat)) : Int) := by decide +kernel
theorem nbits_andNot8_128 : ∀ a : Fin 256, bits .andNot .u8 ((a.val : Nat) : Int) 128 = (((a.val % 128 : Nat)) : Int) := by decide +kernel
end Go.Proofs.Ytiflepadjcpjjaa
/- The contract of codec.Uvarint: for any bytes it returns the number, how many bytes it has, and the error that the plain function uvRead tells. -/
namespace Go.Proofs.Ytiflepadjcpjjaa
open Go.RowKit

theorem uv_step (acc c k : Nat) (hc : c < 256) (ha : acc < 2 ^ (7 * k)) (hk : k ≤ 9) (h1 : k = 9 → c % 128 ≤ 1) :
    bits .or .u64 (acc : Int) (IntKind.u64.wrap (IntKind.u64.wrap (bits .andNot .u8 (c : Int) 128) * 2 ^ (7 * k))) = ((acc + c % 128 * 2 ^ (7 * k) : Nat) : Int) := by
  have e1 := nbits_andNot8_128 ⟨c, hc⟩
  simp only at e1
  obtain ⟨h2, h3, h4⟩ := uv_or acc c k ha hk h1
  have e0 : IntKind.u64.wrap ((c % 128 : Nat) : Int) = ((c % 128 : Nat) : Int) := by simp [IntKind.wrap, IntKind.bits, IntKind.signed]; omega
  have e2 : IntKind.u64.wrap (((c % 128 : Nat) : Int) * 2 ^ (7 * k)) = (((c % 128 * 2 ^ (7 * k)) % 18446744073709551616 : Nat) : Int) := by
    simp [IntKind.wrap, IntKind.bits, IntKind.signed]
  rw [e1, e0, e2, nbits_or64 _ _ h4 (Nat.mod_lt _ (by omega)), h2]

set_option maxRecDepth 100000 in
set_option maxHeartbeats 400000 in
theorem uvarint_any (a : Option Addr) (len cap : Nat) (bs : List UInt8) (w : World) (h : BsAt w a len cap bs) :
    Calls Try.prog 54 #[.slice a len cap] w fun e w' => e = .returned (.tuple #[.int .u64 ((uvRead bs).1 : Nat), .int .i64 ((uvRead bs).2.1 : Nat), .int .i64 ((uvRead bs).2.2 : Nat)]) ∧ w' = w := by
  have hcap := h.max
  have hle := h.le
  have hlen := h.size
  unfold maxLen at hcap
  go_enter Try.func54, Try.ntmps54
  go_wp2
  go_loop [2, 9] (fun n i => ∃ k acc : Nat, k ≤ len ∧ k ≤ 9 ∧ i = .int .i64 k ∧ n = .int .u64 acc ∧ Hid (acc < 2 ^ (7 * k) ∧ uvRead bs = uvGo k acc (bs.drop k))) (fun _ i => len - (intOf i).toNat)
  case atStart => exact ⟨0, 0, Nat.zero_le _, by omega, rfl, rfl, by simp, rfl⟩
  case round =>
    obtain ⟨k, acc, hk, hk9, rfl, rfl, HR⟩ := hrel
    by_cases hlt : k < len
    · obtain ⟨b, off, rfl, hc⟩ := h.here (by omega)
      have hck := hc k hlt
      have hc8 : (bs.getD k 0).toNat < 256 := UInt8.toNat_lt _
      generalize hcd : (bs.getD k 0).toNat = c at hck hc8
      have HC : Hid ((bs.getD k 0).toNat = c) := hcd
      have HB : Hid (k < bs.length) := by unfold Hid; omega
      clear hc hcd hlen h
      by_cases h9 : 9 ≤ k
      · have h9' : ((k : Int) == 9) = true := by simp; omega
        by_cases h1 : 1 < c
        · go_wp2
          go_ret3
          have e := HR.out.2.trans (uvGo_at_long bs k acc HB.out (by omega) (by rw [HC.out]; exact h1))
          rw [e]
          exact ⟨rfl, rfl⟩
        · have h128 : c < 128 := by omega
          go_wp2
          go_ret3
          have e := HR.out.2.trans (uvGo_at_last bs k acc HB.out (by rw [HC.out]; omega) (by rw [HC.out]; exact h128))
          have e2 := uv_step acc c k hc8 HR.out.1 hk9 (by omega)
          rw [e, HC.out]
          exact ⟨ret3 (congrArg (Value.int .u64) e2) rfl rfl, rfl⟩
      · have h9' : ((k : Int) == 9) = false := by simp; omega
        by_cases h128 : c < 128
        · go_wp2
          go_ret3
          have e := HR.out.2.trans (uvGo_at_last bs k acc HB.out (by rw [HC.out]; omega) (by rw [HC.out]; exact h128))
          rw [e, HC.out]
          have e2 := uv_step acc c k hc8 HR.out.1 hk9 (by omega)
          exact ⟨ret3 (congrArg (Value.int .u64) e2) rfl rfl, rfl⟩
        · go_wp2
          go_round
          case rel =>
            have e := HR.out.2.trans (uvGo_at_more bs k acc HB.out (by rw [HC.out]; omega) (by rw [HC.out]; exact h128))
            rw [HC.out] at e
            have e2 := uv_step acc c k hc8 HR.out.1 hk9 (by omega)
            exact ⟨k + 1, acc + c % 128 * 2 ^ (7 * k), by omega, by omega, by go_num, congrArg (Value.int .u64) e2, uv_next acc c k HR.out.1, e⟩
          case measure => simp [intOf]; omega
    · go_wp2
      go_ret3
      have e := HR.out.2.trans (uvGo_at_nil bs k acc (by omega))
      rw [e]
      exact ⟨rfl, rfl⟩

theorem uvarint_eq {a : Option Addr} {len cap : Nat} {bs : List UInt8} {w : World} (h : BsAt w a len cap bs) {n k er : Nat} (hr : uvRead bs = (n, k, er)) :
    Calls Try.prog 54 #[.slice a len cap] w fun e w' => e = .returned (.tuple #[.int .u64 (n : Nat), .int .i64 (k : Nat), .int .i64 (er : Nat)]) ∧ w' = w := by
  have := uvarint_any a len cap bs w h
  rw [hr] at this
  exact this
end Go.Proofs.Ytiflepadjcpjjaa
/- The contract of codec.Text: for any bytes it returns the text, how many bytes it has, and the error that the plain function txtRead tells. -/
namespace Go.Proofs.Ytiflepadjcpjjaa
open Go.RowKit

set_option maxRecDepth 100000 in
set_option maxHeartbeats 400000 in
theorem text_any (a : Option Addr) (len cap : Nat) (bs : List UInt8) (w : World) (h : BsAt w a len cap bs) :
    Calls Try.prog 55 #[.slice a len cap] w fun e w' => e = .returned (.tuple #[.string (strOf (txtRead bs).1), .int .i64 ((txtRead bs).2.1 : Nat), .int .i64 ((txtRead bs).2.2 : Nat)]) ∧ w' = w := by
  have hcap := h.max
  have hle := h.le
  have hlen := h.size
  unfold maxLen at hcap
  have hok := uvRead_ok bs
  generalize hr : uvRead bs = r at hok
  obtain ⟨n, k, er⟩ := r
  simp only at hok
  obtain ⟨hn, hok⟩ := hok
  have HT : Hid (uvRead bs = (n, k, er)) := hr
  have HL : Hid (bs.length = len) := hlen
  clear hr hlen
  by_cases he : er = 0
  · subst he
    have hk : 0 < k ∧ k ≤ len ∧ k ≤ 10 := by have := HL.out; omega
    clear hok
    obtain ⟨b, off, rfl, hc⟩ := h.here (by omega)
    clear hc
    by_cases hnl : n ≤ len - k
    · have HE : Hid (txtRead bs = ((bs.drop k).take n, k + n, 0)) := txtRead_yes HT.out (by have := HL.out; omega)
      have h64 : n ≤ 2 ^ 63 - 1 - k := by omega
      by_cases hck : k < cap
      · have hcv := (h.sub k n (by omega)).asStr (P := Try.prog) (dst := 9) Try.underlying28 Try.underlying5 Try.underlying9
        go_enter Try.func55, Try.ntmps55
        go_wp2_with (go_at_call 54; refine (uvarint_eq h HT.out).mono ?_; rintro e w' ⟨rfl, rfl⟩)
        go_ret3
        rw [HE.out]
        exact ⟨ret3 rfl rfl rfl, rfl⟩
      · obtain rfl : cap = k := by omega
        obtain rfl : n = 0 := by omega
        have hcv := (BsAt.empty (w := w) ⟨b, off, none⟩ 0 (Nat.zero_le _)).asStr (P := Try.prog) (dst := 9) Try.underlying28 Try.underlying5 Try.underlying9
        go_enter Try.func55, Try.ntmps55
        go_wp2_with (go_at_call 54; refine (uvarint_eq h HT.out).mono ?_; rintro e w' ⟨rfl, rfl⟩)
        go_ret3
        rw [HE.out]
        exact ⟨ret3 rfl rfl rfl, rfl⟩
    · have HE : Hid (txtRead bs = ([], 0, 10)) := txtRead_short HT.out (by have := HL.out; omega)
      go_enter Try.func55, Try.ntmps55
      go_wp2_with (go_at_call 54; refine (uvarint_eq h HT.out).mono ?_; rintro e w' ⟨rfl, rfl⟩)
      all_goals
        go_ret3
        rw [HE.out]
        exact ⟨ret3 rfl rfl rfl, rfl⟩
  · have HE : Hid (txtRead bs = ([], 0, er)) := txtRead_err HT.out he
    have he' : ((er : Int) != 0) = true := by simp; omega
    go_enter Try.func55, Try.ntmps55
    go_wp2_with (go_at_call 54; refine (uvarint_eq h HT.out).mono ?_; rintro e w' ⟨rfl, rfl⟩)
    go_ret3
    rw [HE.out]
    exact ⟨ret3 rfl rfl rfl, rfl⟩
end Go.Proofs.Ytiflepadjcpjjaa
/- The contract of codec's fits. -/
namespace Go.Proofs.Ytiflepadjcpjjaa
open Go.RowKit

def fitsB (n : Int) : Bool := decide (1 ≤ n) && decide (n ≤ 8)
set_option maxHeartbeats 400000 in
theorem fits_any (n : Int) (w : World) : Calls Try.prog 58 #[.int .i64 n] w fun e w' => e = .returned (.bool (fitsB n)) ∧ w' = w := by
  by_cases h1 : 1 ≤ n
  · by_cases h2 : n ≤ 8
    · go_enter Try.func58, Try.ntmps58
      go_wp2
      go_ret
      exact ⟨ret1 (by simp [fitsB, h1, h2]), rfl⟩
    · have h2' : decide (n ≤ 8) = false := by simpa using h2
      go_enter Try.func58, Try.ntmps58
      go_wp2
      go_ret
      exact ⟨ret1 (by simp [fitsB, h1, h2]), rfl⟩
  · have h1' : decide (1 ≤ n) = false := by simpa using h1
    go_enter Try.func58, Try.ntmps58
    go_wp2
    go_ret
    exact ⟨ret1 (by simp [fitsB]; omega), rfl⟩
theorem fits_yes (n : Int) (w : World) (h1 : 1 ≤ n) (h2 : n ≤ 8) : Calls Try.prog 58 #[.int .i64 n] w fun e w' => e = .returned (.bool true) ∧ w' = w := by
  have := fits_any n w
  rw [show fitsB n = true by simp [fitsB, h1, h2]] at this
  exact this
theorem fits_no (n : Int) (w : World) (h : n < 1 ∨ 8 < n) : Calls Try.prog 58 #[.int .i64 n] w fun e w' => e = .returned (.bool false) ∧ w' = w := by
  have := fits_any n w
  rw [show fitsB n = false by simp [fitsB]; omega] at this
  exact this
end Go.Proofs.Ytiflepadjcpjjaa
/- The contract of codec.Fixed: for any bytes and any size it returns what the plain function fxRead tells. -/
namespace Go.Proofs.Ytiflepadjcpjjaa
open Go.RowKit

theorem fx_step (acc c k : Nat) (hc : c < 256) (ha : acc < 2 ^ (8 * k)) (hk : k ≤ 7) :
    bits .or .u64 (acc : Int) (IntKind.u64.wrap ((c : Int) * 2 ^ (8 * k))) = ((acc + c * 2 ^ (8 * k) : Nat) : Int) := by
  obtain ⟨h2, h3, h4⟩ := fx_or acc c k ha hk hc
  have e2 : IntKind.u64.wrap ((c : Int) * 2 ^ (8 * k)) = (((c * 2 ^ (8 * k)) % 18446744073709551616 : Nat) : Int) := by
    simp [IntKind.wrap, IntKind.bits, IntKind.signed]
  rw [e2, nbits_or64 _ _ h4 (Nat.mod_lt _ (by omega)), h2]

set_option maxRecDepth 100000 in
set_option maxHeartbeats 400000 in
theorem fixed_any (a : Option Addr) (len cap : Nat) (bs : List UInt8) (size : Int) (w : World) (h : BsAt w a len cap bs) :
    Calls Try.prog 62 #[.slice a len cap, .int .i64 size] w fun e w' => e = .returned (.tuple #[.int .u64 ((fxRead bs size).1 : Nat), .int .i64 ((fxRead bs size).2 : Nat)]) ∧ w' = w := by
  have hcap := h.max
  have hle := h.le
  have hlen := h.size
  unfold maxLen at hcap
  by_cases hs : size < 1 ∨ 8 < size
  · have HE : Hid (fxRead bs size = (0, 1)) := by unfold fxRead Hid; rw [if_pos hs]
    go_enter Try.func62, Try.ntmps62
    go_wp2_with (go_at_call 58; refine (fits_no _ _ hs).mono ?_; rintro e w' ⟨rfl, rfl⟩)
    go_ret2
    rw [HE.out]
    exact ⟨ret2 rfl rfl, rfl⟩
  · have hs1 : 1 ≤ size := by omega
    have hs2 : size ≤ 8 := by omega
    obtain ⟨n, rfl⟩ : ∃ n : Nat, size = (n : Int) := ⟨size.toNat, by omega⟩
    by_cases hl : len < n
    · have HE : Hid (fxRead bs n = (0, 10)) := by unfold fxRead Hid; rw [if_neg hs, if_pos (by simp; omega)]
      clear hs
      go_enter Try.func62, Try.ntmps62
      go_wp2_with (go_at_call 58; refine (fits_yes _ _ hs1 hs2).mono ?_; rintro e w' ⟨rfl, rfl⟩)
      go_ret2
      rw [HE.out]
      exact ⟨ret2 rfl rfl, rfl⟩
    · have HE : Hid (fxRead bs n = (leNat (bs.take n), 0)) := by unfold fxRead Hid; rw [if_neg hs, if_neg (by simp; omega)]; simp
      obtain ⟨b, off, rfl, hc⟩ := h.here (by omega)
      have HL : Hid (bs.length = len) := hlen
      clear hs hlen h
      have HC : Hid (∀ j, j < len → w.cell? ⟨b, off + j, none⟩ = some (.int .u8 ((bs.getD j 0).toNat : Int))) := hc
      clear hc
      go_enter Try.func62, Try.ntmps62
      go_wp2_with (go_at_call 58; refine (fits_yes _ _ hs1 hs2).mono ?_; rintro e w' ⟨rfl, rfl⟩)
      go_loop [6, 20] (fun x i => ∃ k acc : Nat, k ≤ n ∧ i = .int .i64 k ∧ x = .int .u64 acc ∧ Hid (acc = leNat (bs.take k))) (fun _ i => n - (intOf i).toNat)
      case atStart => exact ⟨0, 0, Nat.zero_le _, rfl, rfl, by simp [Hid, leNat]⟩
      case round =>
        obtain ⟨k, acc, hk, rfl, rfl, HR⟩ := hrel
        by_cases hlt : k < n
        · have hck := HC.out k (by omega)
          have hc8 : (bs.getD k 0).toNat < 256 := UInt8.toNat_lt _
          have hs := leNat_take_succ bs k (by have := HL.out; omega)
          have ha := leNat_take_lt bs k (by have := HL.out; omega)
          rw [← HR.out] at hs ha
          generalize hcd : (bs.getD k 0).toNat = c at hck hc8 hs
          have HS : Hid (leNat (bs.take (k + 1)) = acc + c * 2 ^ (8 * k)) := hs
          have HA : Hid (acc < 2 ^ (8 * k)) := ha
          clear hcd hs ha
          go_wp2
          go_round
          case rel =>
            exact ⟨k + 1, acc + c * 2 ^ (8 * k), by omega, by go_num, congrArg (Value.int .u64) (fx_step acc c k hc8 HA.out (by omega)), HS.out.symm⟩
          case measure => simp [intOf]; omega
        · go_wp2
          go_ret2
          rw [HE.out]
          have hkn : k = n := by omega
          exact ⟨ret2 (by rw [HR.out, hkn]; rfl) rfl, rfl⟩
end Go.Proofs.Ytiflepadjcpjjaa
/- Structs of three fields in memory: what is known of their cells in a later world. -/
namespace Go.Proofs.Ytiflepadjcpjjaa
open Go.RowKit

structure Rec3 (w : World) (n : Nat) (x y z : Value) : Prop where
  c0 : w.cell? ⟨n, 0, none⟩ = some x
  c1 : w.cell? ⟨n, 1, none⟩ = some y
  c2 : w.cell? ⟨n, 2, none⟩ = some z
  f0 : w.frozen? ⟨n, 0, none⟩ = false
  f1 : w.frozen? ⟨n, 1, none⟩ = false
  f2 : w.frozen? ⟨n, 2, none⟩ = false
  lt : n < w.heap.size

theorem Rec3.new (w : World) (n : Nat) (hn : n = w.heap.size) (x y z : Value) (t : TypeId) : Rec3 (w.alloc (.cells #[x, y, z] t)) n x y z := by
  subst hn
  refine ⟨?_, ?_, ?_, ?_, ?_, ?_, by simp⟩ <;> simp
theorem Rec3.below {B n : Nat} {w w' : World} {x y z : Value} (h : Rec3 w n x y z) (hB : w.heap.size ≤ B) (hb : Below B w w') : Rec3 w' n x y z := by
  have hn : n < B := Nat.lt_of_lt_of_le h.lt hB
  refine ⟨?_, ?_, ?_, ?_, ?_, ?_, Nat.lt_of_lt_of_le h.lt hb.size⟩
  · rw [hb.cell hn]; exact h.c0
  · rw [hb.cell hn]; exact h.c1
  · rw [hb.cell hn]; exact h.c2
  · rw [hb.frozen hn]; exact h.f0
  · rw [hb.frozen hn]; exact h.f1
  · rw [hb.frozen hn]; exact h.f2
theorem Rec3.alloc {n : Nat} {w : World} {x y z : Value} (h : Rec3 w n x y z) (o : Obj) : Rec3 (w.alloc o) n x y z := h.below (Nat.le_refl _) ((Below.refl _ _).alloc (Nat.le_refl _) _)
end Go.Proofs.Ytiflepadjcpjjaa
