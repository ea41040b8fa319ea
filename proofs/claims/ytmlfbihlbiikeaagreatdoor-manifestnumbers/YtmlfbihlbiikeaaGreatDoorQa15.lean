/- The contract of codec.Uvarint: for any bytes it returns the number, how many bytes it has, and the error that the plain function uvRead tells. -/
import Derived.Test.YtmlfbihlbiikeaaGreatDoorChecked
import Derived.Test.YtmlfbihlbiikeaaGreatDoorQa01
import Derived.Test.YtmlfbihlbiikeaaGreatDoorQa03
import Derived.Test.YtmlfbihlbiikeaaGreatDoorQa00
import Derived.Test.YtmlfbihlbiikeaaGreatDoorQa04
namespace Go.Proofs.YtmlfbihlbiikeaaGreatDoor
open Go.RowKit

theorem uv_step (acc c k : Nat) (hc : c < 256) (ha : acc < 2 ^ (7 * k)) (hk : k ≤ 9) (h1 : k = 9 → c % 128 ≤ 1) :
    bits .or .u64 (acc : Int) (IntKind.u64.wrap (IntKind.u64.wrap (bits .andNot .u8 (c : Int) 128) * 2 ^ (7 * k))) = ((acc + c % 128 * 2 ^ (7 * k) : Nat) : Int) := by
  have e1 := nbits_andNot8_128 ⟨c, hc⟩
  simp only at e1
  obtain ⟨h2, h3, h4⟩ := uv_or acc c k ha hk h1
  have e0 : IntKind.u64.wrap ((c % 128 : Nat) : Int) = ((c % 128 : Nat) : Int) := by simp [IntKind.wrap, IntKind.bits, IntKind.signed]; omega
  have e2 : IntKind.u64.wrap (((c % 128 : Nat) : Int) * 2 ^ (7 * k)) = (((c % 128 * 2 ^ (7 * k)) % 18446744073709551616 : Nat) : Int) := by
    simp [IntKind.wrap, IntKind.bits, IntKind.signed]
  rw [e1, e0, e2, nbits_or64 _ _ h4 (Nat.mod_lt _ (by omega)), h2]

set_option maxRecDepth 100000 in
set_option maxHeartbeats 400000 in
theorem uvarint_any (a : Option Addr) (len cap : Nat) (bs : List UInt8) (w : World) (h : BsAt w a len cap bs) :
    Calls Tryz.prog 226 #[.slice a len cap] w fun e w' => e = .returned (.tuple #[.int .u64 ((uvRead bs).1 : Nat), .int .i64 ((uvRead bs).2.1 : Nat), .int .i64 ((uvRead bs).2.2 : Nat)]) ∧ w' = w := by
  have hcap := h.max
  have hle := h.le
  have hlen := h.size
  unfold maxLen at hcap
  go_enter Tryz.func226, Tryz.ntmps226
  go_wp2
  go_loop [2, 9] (fun n i => ∃ k acc : Nat, k ≤ len ∧ k ≤ 9 ∧ i = .int .i64 k ∧ n = .int .u64 acc ∧ Hid (acc < 2 ^ (7 * k) ∧ uvRead bs = uvGo k acc (bs.drop k))) (fun _ i => len - (intOf i).toNat)
  case atStart => exact ⟨0, 0, Nat.zero_le _, by omega, rfl, rfl, by simp, rfl⟩
  case round =>
    obtain ⟨k, acc, hk, hk9, rfl, rfl, HR⟩ := hrel
    by_cases hlt : k < len
    · obtain ⟨b, off, rfl, hc⟩ := h.here (by omega)
      have hck := hc k hlt
      have hc8 : (bs.getD k 0).toNat < 256 := UInt8.toNat_lt _
      generalize hcd : (bs.getD k 0).toNat = c at hck hc8
      have HC : Hid ((bs.getD k 0).toNat = c) := hcd
      have HB : Hid (k < bs.length) := by unfold Hid; omega
      clear hc hcd hlen h
      by_cases h9 : 9 ≤ k
      · have h9' : ((k : Int) == 9) = true := by simp; omega
        by_cases h1 : 1 < c
        · go_wp2
          go_ret3
          have e := HR.out.2.trans (uvGo_at_long bs k acc HB.out (by omega) (by rw [HC.out]; exact h1))
          rw [e]
          exact ⟨rfl, rfl⟩
        · have h128 : c < 128 := by omega
          go_wp2
          go_ret3
          have e := HR.out.2.trans (uvGo_at_last bs k acc HB.out (by rw [HC.out]; omega) (by rw [HC.out]; exact h128))
          have e2 := uv_step acc c k hc8 HR.out.1 hk9 (by omega)
          rw [e, HC.out]
          exact ⟨ret3 (congrArg (Value.int .u64) e2) rfl rfl, rfl⟩
      · have h9' : ((k : Int) == 9) = false := by simp; omega
        by_cases h128 : c < 128
        · go_wp2
          go_ret3
          have e := HR.out.2.trans (uvGo_at_last bs k acc HB.out (by rw [HC.out]; omega) (by rw [HC.out]; exact h128))
          rw [e, HC.out]
          have e2 := uv_step acc c k hc8 HR.out.1 hk9 (by omega)
          exact ⟨ret3 (congrArg (Value.int .u64) e2) rfl rfl, rfl⟩
        · go_wp2
          go_round
          case rel =>
            have e := HR.out.2.trans (uvGo_at_more bs k acc HB.out (by rw [HC.out]; omega) (by rw [HC.out]; exact h128))
            rw [HC.out] at e
            have e2 := uv_step acc c k hc8 HR.out.1 hk9 (by omega)
            exact ⟨k + 1, acc + c % 128 * 2 ^ (7 * k), by omega, by omega, by go_num, congrArg (Value.int .u64) e2, uv_next acc c k HR.out.1, e⟩
          case measure => simp [intOf]; omega
    · go_wp2
      go_ret3
      have e := HR.out.2.trans (uvGo_at_nil bs k acc (by omega))
      rw [e]
      exact ⟨rfl, rfl⟩

theorem uvarint_eq {a : Option Addr} {len cap : Nat} {bs : List UInt8} {w : World} (h : BsAt w a len cap bs) {n k er : Nat} (hr : uvRead bs = (n, k, er)) :
    Calls Tryz.prog 226 #[.slice a len cap] w fun e w' => e = .returned (.tuple #[.int .u64 (n : Nat), .int .i64 (k : Nat), .int .i64 (er : Nat)]) ∧ w' = w := by
  have := uvarint_any a len cap bs w h
  rw [hr] at this
  exact this
end Go.Proofs.YtmlfbihlbiikeaaGreatDoor
namespace Go.Proofs.YtmlfbihlbiikeaaGreatDoor
open Go.RowKit

set_option maxRecDepth 100000 in
set_option maxHeartbeats 400000 in
theorem text_any (a : Option Addr) (len cap : Nat) (bs : List UInt8) (w : World) (h : BsAt w a len cap bs) :
    Calls Tryz.prog 227 #[.slice a len cap] w fun e w' => e = .returned (.tuple #[.string (strOf (txtRead bs).1), .int .i64 ((txtRead bs).2.1 : Nat), .int .i64 ((txtRead bs).2.2 : Nat)]) ∧ w' = w := by
  have hcap := h.max
  have hle := h.le
  have hlen := h.size
  unfold maxLen at hcap
  have hok := uvRead_ok bs
  generalize hr : uvRead bs = r at hok
  obtain ⟨n, k, er⟩ := r
  simp only at hok
  obtain ⟨hn, hok⟩ := hok
  have HT : Hid (uvRead bs = (n, k, er)) := hr
  have HL : Hid (bs.length = len) := hlen
  clear hr hlen
  by_cases he : er = 0
  · subst he
    have hk : 0 < k ∧ k ≤ len ∧ k ≤ 10 := by have := HL.out; omega
    clear hok
    obtain ⟨b, off, rfl, hc⟩ := h.here (by omega)
    clear hc
    by_cases hnl : n ≤ len - k
    · have HE : Hid (txtRead bs = ((bs.drop k).take n, k + n, 0)) := txtRead_yes HT.out (by have := HL.out; omega)
      have h64 : n ≤ 2 ^ 63 - 1 - k := by omega
      by_cases hck : k < cap
      · have hcv := (h.sub k n (by omega)).asStr (P := Tryz.prog) (dst := 9) Tryz.underlying29 Tryz.underlying5 Tryz.underlying9
        go_enter Tryz.func227, Tryz.ntmps227
        go_wp2_with (go_at_call 226; refine (uvarint_eq h HT.out).mono ?_; rintro e w' ⟨rfl, rfl⟩)
        go_ret3
        rw [HE.out]
        exact ⟨ret3 rfl rfl rfl, rfl⟩
      · obtain rfl : cap = k := by omega
        obtain rfl : n = 0 := by omega
        have hcv := (BsAt.empty (w := w) ⟨b, off, none⟩ 0 (Nat.zero_le _)).asStr (P := Tryz.prog) (dst := 9) Tryz.underlying29 Tryz.underlying5 Tryz.underlying9
        go_enter Tryz.func227, Tryz.ntmps227
        go_wp2_with (go_at_call 226; refine (uvarint_eq h HT.out).mono ?_; rintro e w' ⟨rfl, rfl⟩)
        go_ret3
        rw [HE.out]
        exact ⟨ret3 rfl rfl rfl, rfl⟩
    · have HE : Hid (txtRead bs = ([], 0, 10)) := txtRead_short HT.out (by have := HL.out; omega)
      go_enter Tryz.func227, Tryz.ntmps227
      go_wp2_with (go_at_call 226; refine (uvarint_eq h HT.out).mono ?_; rintro e w' ⟨rfl, rfl⟩)
      all_goals
        go_ret3
        rw [HE.out]
        exact ⟨ret3 rfl rfl rfl, rfl⟩
  · have HE : Hid (txtRead bs = ([], 0, er)) := txtRead_err HT.out he
    have he' : ((er : Int) != 0) = true := by simp; omega
    go_enter Tryz.func227, Tryz.ntmps227
    go_wp2_with (go_at_call 226; refine (uvarint_eq h HT.out).mono ?_; rintro e w' ⟨rfl, rfl⟩)
    go_ret3
    rw [HE.out]
    exact ⟨ret3 rfl rfl rfl, rfl⟩
end Go.Proofs.YtmlfbihlbiikeaaGreatDoor
namespace Go.Proofs.YtmlfbihlbiikeaaGreatDoor
open Go.RowKit

def fitsB (n : Int) : Bool := decide (1 ≤ n) && decide (n ≤ 8)
set_option maxHeartbeats 400000 in
theorem fits_any (n : Int) (w : World) : Calls Tryz.prog 216 #[.int .i64 n] w fun e w' => e = .returned (.bool (fitsB n)) ∧ w' = w := by
  by_cases h1 : 1 ≤ n
  · by_cases h2 : n ≤ 8
    · go_enter Tryz.func216, Tryz.ntmps216
      go_wp2
      go_ret
      exact ⟨ret1 (by simp [fitsB, h1, h2]), rfl⟩
    · have h2' : decide (n ≤ 8) = false := by simpa using h2
      go_enter Tryz.func216, Tryz.ntmps216
      go_wp2
      go_ret
      exact ⟨ret1 (by simp [fitsB, h1, h2]), rfl⟩
  · have h1' : decide (1 ≤ n) = false := by simpa using h1
    go_enter Tryz.func216, Tryz.ntmps216
    go_wp2
    go_ret
    exact ⟨ret1 (by simp [fitsB]; omega), rfl⟩
theorem fits_yes (n : Int) (w : World) (h1 : 1 ≤ n) (h2 : n ≤ 8) : Calls Tryz.prog 216 #[.int .i64 n] w fun e w' => e = .returned (.bool true) ∧ w' = w := by
  have := fits_any n w
  rw [show fitsB n = true by simp [fitsB, h1, h2]] at this
  exact this
theorem fits_no (n : Int) (w : World) (h : n < 1 ∨ 8 < n) : Calls Tryz.prog 216 #[.int .i64 n] w fun e w' => e = .returned (.bool false) ∧ w' = w := by
  have := fits_any n w
  rw [show fitsB n = false by simp [fitsB]; omega] at this
  exact this
end Go.Proofs.YtmlfbihlbiikeaaGreatDoor
namespace Go.Proofs.YtmlfbihlbiikeaaGreatDoor
open Go.RowKit

theorem fx_step (acc c k : Nat) (hc : c < 256) (ha : acc < 2 ^ (8 * k)) (hk : k ≤ 7) :
    bits .or .u64 (acc : Int) (IntKind.u64.wrap ((c : Int) * 2 ^ (8 * k))) = ((acc + c * 2 ^ (8 * k) : Nat) : Int) := by
  obtain ⟨h2, h3, h4⟩ := fx_or acc c k ha hk hc
  have e2 : IntKind.u64.wrap ((c : Int) * 2 ^ (8 * k)) = (((c * 2 ^ (8 * k)) % 18446744073709551616 : Nat) : Int) := by
    simp [IntKind.wrap, IntKind.bits, IntKind.signed]
  rw [e2, nbits_or64 _ _ h4 (Nat.mod_lt _ (by omega)), h2]

set_option maxRecDepth 100000 in
set_option maxHeartbeats 400000 in
theorem fixed_any (a : Option Addr) (len cap : Nat) (bs : List UInt8) (size : Int) (w : World) (h : BsAt w a len cap bs) :
    Calls Tryz.prog 191 #[.slice a len cap, .int .i64 size] w fun e w' => e = .returned (.tuple #[.int .u64 ((fxRead bs size).1 : Nat), .int .i64 ((fxRead bs size).2 : Nat)]) ∧ w' = w := by
  have hcap := h.max
  have hle := h.le
  have hlen := h.size
  unfold maxLen at hcap
  by_cases hs : size < 1 ∨ 8 < size
  · have HE : Hid (fxRead bs size = (0, 1)) := by unfold fxRead Hid; rw [if_pos hs]
    go_enter Tryz.func191, Tryz.ntmps191
    go_wp2_with (go_at_call 216; refine (fits_no _ _ hs).mono ?_; rintro e w' ⟨rfl, rfl⟩)
    go_ret2
    rw [HE.out]
    exact ⟨ret2 rfl rfl, rfl⟩
  · have hs1 : 1 ≤ size := by omega
    have hs2 : size ≤ 8 := by omega
    obtain ⟨n, rfl⟩ : ∃ n : Nat, size = (n : Int) := ⟨size.toNat, by omega⟩
    by_cases hl : len < n
    · have HE : Hid (fxRead bs n = (0, 10)) := by unfold fxRead Hid; rw [if_neg hs, if_pos (by simp; omega)]
      clear hs
      go_enter Tryz.func191, Tryz.ntmps191
      go_wp2_with (go_at_call 216; refine (fits_yes _ _ hs1 hs2).mono ?_; rintro e w' ⟨rfl, rfl⟩)
      go_ret2
      rw [HE.out]
      exact ⟨ret2 rfl rfl, rfl⟩
    · have HE : Hid (fxRead bs n = (leNat (bs.take n), 0)) := by unfold fxRead Hid; rw [if_neg hs, if_neg (by simp; omega)]; simp
      obtain ⟨b, off, rfl, hc⟩ := h.here (by omega)
      have HL : Hid (bs.length = len) := hlen
      clear hs hlen h
      have HC : Hid (∀ j, j < len → w.cell? ⟨b, off + j, none⟩ = some (.int .u8 ((bs.getD j 0).toNat : Int))) := hc
      clear hc
      go_enter Tryz.func191, Tryz.ntmps191
      go_wp2_with (go_at_call 216; refine (fits_yes _ _ hs1 hs2).mono ?_; rintro e w' ⟨rfl, rfl⟩)
      go_loop [6, 20] (fun x i => ∃ k acc : Nat, k ≤ n ∧ i = .int .i64 k ∧ x = .int .u64 acc ∧ Hid (acc = leNat (bs.take k))) (fun _ i => n - (intOf i).toNat)
      case atStart => exact ⟨0, 0, Nat.zero_le _, rfl, rfl, by simp [Hid, leNat]⟩
      case round =>
        obtain ⟨k, acc, hk, rfl, rfl, HR⟩ := hrel
        by_cases hlt : k < n
        · have hck := HC.out k (by omega)
          have hc8 : (bs.getD k 0).toNat < 256 := UInt8.toNat_lt _
          have hs := leNat_take_succ bs k (by have := HL.out; omega)
          have ha := leNat_take_lt bs k (by have := HL.out; omega)
          rw [← HR.out] at hs ha
          generalize hcd : (bs.getD k 0).toNat = c at hck hc8 hs
          have HS : Hid (leNat (bs.take (k + 1)) = acc + c * 2 ^ (8 * k)) := hs
          have HA : Hid (acc < 2 ^ (8 * k)) := ha
          clear hcd hs ha
          go_wp2
          go_round
          case rel =>
            exact ⟨k + 1, acc + c * 2 ^ (8 * k), by omega, by go_num, congrArg (Value.int .u64) (fx_step acc c k hc8 HA.out (by omega)), HS.out.symm⟩
          case measure => simp [intOf]; omega
        · go_wp2
          go_ret2
          rw [HE.out]
          have hkn : k = n := by omega
          exact ⟨ret2 (by rw [HR.out, hkn]; rfl) rfl, rfl⟩
end Go.Proofs.YtmlfbihlbiikeaaGreatDoor
namespace Go.Proofs.YtmlfbihlbiikeaaGreatDoor
open Go.RowKit

structure Rec3 (w : World) (n : Nat) (x y z : Value) : Prop where
  c0 : w.cell? ⟨n, 0, none⟩ = some x
  c1 : w.cell? ⟨n, 1, none⟩ = some y
  c2 : w.cell? ⟨n, 2, none⟩ = some z
  f0 : w.frozen? ⟨n, 0, none⟩ = false
  f1 : w.frozen? ⟨n, 1, none⟩ = false
  f2 : w.frozen? ⟨n, 2, none⟩ = false
  lt : n < w.heap.size

theorem Rec3.new (w : World) (n : Nat) (hn : n = w.heap.size) (x y z : Value) (t : TypeId) : Rec3 (w.alloc (.cells #[x, y, z] t)) n x y z := by
  subst hn
  refine ⟨?_, ?_, ?_, ?_, ?_, ?_, by simp⟩ <;> simp
theorem Rec3.below {B n : Nat} {w w' : World} {x y z : Value} (h : Rec3 w n x y z) (hB : w.heap.size ≤ B) (hb : Below B w w') : Rec3 w' n x y z := by
  have hn : n < B := Nat.lt_of_lt_of_le h.lt hB
  refine ⟨?_, ?_, ?_, ?_, ?_, ?_, Nat.lt_of_lt_of_le h.lt hb.size⟩
  · rw [hb.cell hn]; exact h.c0
  · rw [hb.cell hn]; exact h.c1
  · rw [hb.cell hn]; exact h.c2
  · rw [hb.frozen hn]; exact h.f0
  · rw [hb.frozen hn]; exact h.f1
  · rw [hb.frozen hn]; exact h.f2
theorem Rec3.alloc {n : Nat} {w : World} {x y z : Value} (h : Rec3 w n x y z) (o : Obj) : Rec3 (w.alloc o) n x y z := h.below (Nat.le_refl _) ((Below.refl _ _).alloc (Nat.le_refl _) _)
end Go.Proofs.YtmlfbihlbiikeaaGreatDoor
namespace Go.Proofs.YtmlfbihlbiikeaaGreatDoor
open Go.RowKit

set_option maxRecDepth 100000 in
set_option maxHeartbeats 400000 in
theorem decode_any (a : Option Addr) (len cap : Nat) (bs : List UInt8) (w : World) (h : BsAt w a len cap bs) :
    Calls Tryz.prog 228 #[.slice a len cap] w fun e w' => e = .returned (.tuple #[.agg #[.string (strOf (keyUser bs)), .int .u64 ((keySeq bs : Nat) : Int), .int .i64 ((keyKind bs : Nat) : Int)], .int .i64 ((keyErr bs : Nat) : Int)]) ∧ Below w.heap.size w w' := by
  have hcap := h.max
  have hle := h.le
  have hlen := h.size
  unfold maxLen at hcap
  by_cases h1 : len < 8
  · have hno : keyOk bs = false := by rw [Bool.eq_false_iff, Ne, keyOk_iff]; omega
    have HE : Hid (keyUser bs = [] ∧ keySeq bs = 0 ∧ keyKind bs = 0 ∧ keyErr bs = 20) := by simp [Hid, keyUser, keySeq, keyKind, keyErr, hno]
    clear hlen h hno
    go_enter Tryz.func228, Tryz.ntmps228
    go_wp2
    obtain ⟨e1, e2, e3, e4⟩ := HE.out
    rw [e1, e2, e3, e4]
    refine bodyPost_ret (v := .tuple #[.agg #[.string (strOf []), .int .u64 0, .int .i64 0], .int .i64 20]) (by simp [results, Tryz.results228, go_sem, strOf]) rfl ⟨rfl, (Below.refl _ _).alloc (Nat.le_refl _) _⟩
  · by_cases h2 : 72 < len
    · have hno : keyOk bs = false := by rw [Bool.eq_false_iff, Ne, keyOk_iff]; omega
      have HE : Hid (keyUser bs = [] ∧ keySeq bs = 0 ∧ keyKind bs = 0 ∧ keyErr bs = 20) := by simp [Hid, keyUser, keySeq, keyKind, keyErr, hno]
      clear hlen h hno
      go_enter Tryz.func228, Tryz.ntmps228
      go_wp2
      obtain ⟨e1, e2, e3, e4⟩ := HE.out
      rw [e1, e2, e3, e4]
      refine bodyPost_ret (v := .tuple #[.agg #[.string (strOf []), .int .u64 0, .int .i64 0], .int .i64 20]) (by simp [results, Tryz.results228, go_sem, strOf]) rfl ⟨rfl, (Below.refl _ _).alloc (Nat.le_refl _) _⟩
    · obtain ⟨u, rfl⟩ : ∃ u, len = u + 8 := ⟨len - 8, by omega⟩
      obtain ⟨b, off, rfl, _⟩ := h.here (by omega)
      have HT : Hid (BsAt w (some ⟨b, off + u, none⟩) 8 (cap - u) (bs.drop u)) := by
        have := h.sub u 8 (by omega)
        rwa [List.take_of_length_le (by simp; omega)] at this
      have HU : Hid (BsAt w (some ⟨b, off, none⟩) u cap (bs.take u)) := h.upTo u (by omega)
      have HN : Hid (fxRead (bs.drop u) 8 = (keyNum bs, 0)) := by
        unfold fxRead keyNum Hid
        rw [if_neg (by omega), if_neg (by simp; omega), hlen]
        simp
        rw [List.take_of_length_le (by simp; omega)]
      have hlt := keyNum_lt bs
      have HX : Hid (bs.length = u + 8) := hlen
      generalize hnn : keyNum bs = n at hlt HN
      have hand : bits .and .u64 (n : Int) 255 = ((n % 256 : Nat) : Int) := by
        rw [show (255 : Int) = ((255 : Nat) : Int) by rfl, nbits_and64 _ _ hlt (by omega), show (255 : Nat) = 2 ^ 8 - 1 by rfl, Nat.and_two_pow_sub_one_eq_mod]
      have HS : Hid ((strOf (bs.take u)).size = u) := by
        show (bs.take u).toArray.size = u
        simp
        omega
      generalize hSS : strOf (bs.take u) = S at HS
      clear hlen h
      by_cases hk : n % 256 ≤ 1
      · have hok : keyOk bs = true := by rw [keyOk_iff, hnn, HX.out]; omega
        have HE : Hid (keyUser bs = bs.take u ∧ keySeq bs = n / 256 ∧ keyKind bs = n % 256 ∧ keyErr bs = 0) := by simp [Hid, keyUser, keySeq, keyKind, keyErr, hok, HX.out, hnn]
        have hck : ∀ W, Calls Tryz.prog 164 #[.agg #[.string S, .int .u64 ((n : Int) / 256), .int .i64 ((n : Int) % 256)]] W fun e w' => e = .returned (.int .i64 0) ∧ Below W.heap.size W w' := fun W => by
          have := check_any S (n / 256) ((n : Int) % 256) W (by rw [HS.out]; omega)
          rwa [chk_mk (by rw [HS.out]; omega) (by omega) (by omega), Int.natCast_ediv] at this
        clear hok hk
        go_enter Tryz.func228, Tryz.ntmps228
        go_wp2_with (first
          | (go_at_call 191; refine (fixed_any _ _ _ (bs.drop u) 8 _ (HT.out.alloc _)).mono ?_; rw [HN.out]; rintro e w1 ⟨rfl, rfl⟩; have hcv := conv_of (HU.out.alloc (.cells #[.string ⟨#[]⟩, .int .u64 0, .int .i64 0] 57)))
          | (go_at_call 164; refine (hck _).mono ?_; rintro e w2 ⟨rfl, hb2⟩
             have HB : Hid (Below w.heap.size w w2) := (((Below.refl _ w).alloc (Nat.le_refl _) _).alloc (by simp) _).trans (hb2.mono (by simp; omega))
             obtain ⟨c0, c1, c2, f0, f1, f2, hl⟩ := ((Rec3.new w w.heap.size rfl _ _ _ _).alloc _).below (Nat.le_refl _) hb2
             obtain ⟨d0, d1, d2, _, _, _, hm⟩ := (Rec3.new _ (w.heap.size + 1) (by simp) _ _ _ _).below (Nat.le_refl _) hb2
             clear hb2))
        obtain ⟨e1, e2, e3, e4⟩ := HE.out
        rw [e1, e2, e3, e4, hSS]
        refine bodyPost_ret (v := .tuple #[.agg #[.string S, .int .u64 ((n : Int) / 256), .int .i64 ((n : Int) % 256)], .int .i64 0]) (by simp [results, Tryz.results228, go_sem, *]) rfl ⟨rfl, ?_⟩
        exact ((HB.out.setCell (Nat.le_refl _) _).setCell (Nat.le_refl _) _).setCell (Nat.le_refl _) _
      · have hno : keyOk bs = false := by rw [Bool.eq_false_iff, Ne, keyOk_iff, hnn]; omega
        have HE : Hid (keyUser bs = [] ∧ keySeq bs = 0 ∧ keyKind bs = 0 ∧ keyErr bs = 20) := by simp [Hid, keyUser, keySeq, keyKind, keyErr, hno]
        have hck : ∀ W, Calls Tryz.prog 164 #[.agg #[.string S, .int .u64 ((n : Int) / 256), .int .i64 ((n : Int) % 256)]] W fun e w' => e = .returned (.int .i64 23) ∧ Below W.heap.size W w' := fun W => by
          have := check_any S (n / 256) ((n : Int) % 256) W (by rw [HS.out]; omega)
          rwa [show chk S.size (n / 256) ((n : Int) % 256) = 23 by unfold chk; rw [if_neg (by rw [HS.out]; omega), if_neg (by omega), if_neg (by omega)], Int.natCast_ediv] at this
        clear hno hk
        go_enter Tryz.func228, Tryz.ntmps228
        go_wp2_with (first
          | (go_at_call 191; refine (fixed_any _ _ _ (bs.drop u) 8 _ (HT.out.alloc _)).mono ?_; rw [HN.out]; rintro e w1 ⟨rfl, rfl⟩; have hcv := conv_of (HU.out.alloc (.cells #[.string ⟨#[]⟩, .int .u64 0, .int .i64 0] 57)))
          | (go_at_call 164; refine (hck _).mono ?_; rintro e w2 ⟨rfl, hb2⟩
             have HB : Hid (Below w.heap.size w w2) := (((Below.refl _ w).alloc (Nat.le_refl _) _).alloc (by simp) _).trans (hb2.mono (by simp; omega))
             obtain ⟨c0, c1, c2, f0, f1, f2, hl⟩ := ((Rec3.new w w.heap.size rfl _ _ _ _).alloc _).below (Nat.le_refl _) hb2
             obtain ⟨d0, d1, d2, _, _, _, hm⟩ := (Rec3.new _ (w.heap.size + 1) (by simp) _ _ _ _).below (Nat.le_refl _) hb2
             clear hb2))
        obtain ⟨e1, e2, e3, e4⟩ := HE.out
        rw [e1, e2, e3, e4]
        refine bodyPost_ret (v := .tuple #[.agg #[.string (strOf []), .int .u64 0, .int .i64 0], .int .i64 20]) (by simp [results, Tryz.results228, go_sem, strOf, *]) rfl ⟨rfl, ?_⟩
        exact ((HB.out.setCell (Nat.le_refl _) _).setCell (Nat.le_refl _) _).setCell (Nat.le_refl _) _
end Go.Proofs.YtmlfbihlbiikeaaGreatDoor
namespace Go.Proofs.YtmlfbihlbiikeaaGreatDoor
open Go.RowKit

theorem BsAt.ofStr (w : World) (s : ByteArray) (cap : Nat) (fz : Nat × Nat) (hs : s.size ≤ cap) (hc : cap ≤ maxLen) : BsAt (w.drew.alloc (.cells (bytesRow s cap) 5 fz)) (some ⟨w.heap.size, 0, none⟩) s.size cap s.data.toList := by
  have hl : s.data.toList.length = s.size := by rw [Array.length_toList]; rfl
  refine ⟨hl, hs, hc, by simp, fun _ => ⟨w.heap.size, 0, rfl, fun j hj => ?_⟩⟩
  rw [cell_of_row (w.drew.alloc (.cells (bytesRow s cap) 5 fz)) w.heap.size (0 + j) (bytesRow s cap) 5 fz (heap_alloc_new w.drew _)]
  have hj' : j < s.data.size := hj
  simp [bytesRow, List.getD, Array.getElem?_append, hj]
end Go.Proofs.YtmlfbihlbiikeaaGreatDoor
