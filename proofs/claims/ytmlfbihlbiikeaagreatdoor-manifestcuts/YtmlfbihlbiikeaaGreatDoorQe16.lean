/- The contract of codec's fits. -/
import Derived.Test.YtmlfbihlbiikeaaGreatDoorChecked
import Derived.Test.YtmlfbihlbiikeaaGreatDoorQe06
import Derived.Test.YtmlfbihlbiikeaaGreatDoorQe01
import Derived.Test.YtmlfbihlbiikeaaGreatDoorQe00
import Derived.Test.YtmlfbihlbiikeaaGreatDoorQe03
import Derived.Test.YtmlfbihlbiikeaaGreatDoorQe15
set_option linter.unusedVariables false
set_option linter.unusedSimpArgs false
set_option maxRecDepth 100000
namespace Go.Proofs.YtmlfbihlbiikeaaGreatDoor
open Go.RowKit

def fitsB (n : Int) : Bool := decide (1 ≤ n) && decide (n ≤ 8)
set_option maxHeartbeats 400000 in
theorem fits_any (n : Int) (w : World) : Calls Tryz.prog 216 #[.int .i64 n] w fun e w' => e = .returned (.bool (fitsB n)) ∧ w' = w := by
 by_cases h1 : 1 ≤ n
 · by_cases h2 : n ≤ 8
   · go_enter Tryz.func216, Tryz.ntmps216
     go_wp2
     go_ret
     exact ⟨ret1 (by simp [fitsB, h1, h2]), rfl⟩
   · have h2' : decide (n ≤ 8) = false := by simpa using h2
     go_enter Tryz.func216, Tryz.ntmps216
     go_wp2
     go_ret
     exact ⟨ret1 (by simp [fitsB, h1, h2]), rfl⟩
 · have h1' : decide (1 ≤ n) = false := by simpa using h1
   go_enter Tryz.func216, Tryz.ntmps216
   go_wp2
   go_ret
   exact ⟨ret1 (by simp [fitsB]; omega), rfl⟩
theorem fits_yes (n : Int) (w : World) (h1 : 1 ≤ n) (h2 : n ≤ 8) : Calls Tryz.prog 216 #[.int .i64 n] w fun e w' => e = .returned (.bool true) ∧ w' = w := by
 have := fits_any n w
 rw [show fitsB n = true by simp [fitsB, h1, h2]] at this
 exact this
theorem fits_no (n : Int) (w : World) (h : n < 1 ∨ 8 < n) : Calls Tryz.prog 216 #[.int .i64 n] w fun e w' => e = .returned (.bool false) ∧ w' = w := by
 have := fits_any n w
 rw [show fitsB n = false by simp [fitsB]; omega] at this
 exact this
end Go.Proofs.YtmlfbihlbiikeaaGreatDoor
namespace Go.Proofs.YtmlfbihlbiikeaaGreatDoor
open Go.RowKit

theorem fx_step (acc c k : Nat) (hc : c < 256) (ha : acc < 2 ^ (8 * k)) (hk : k ≤ 7) :
 bits .or .u64 (acc : Int) (IntKind.u64.wrap ((c : Int) * 2 ^ (8 * k))) = ((acc + c * 2 ^ (8 * k) : Nat) : Int) := by
 obtain ⟨h2, h3, h4⟩ := fx_or acc c k ha hk hc
 have e2 : IntKind.u64.wrap ((c : Int) * 2 ^ (8 * k)) = (((c * 2 ^ (8 * k)) % 18446744073709551616 : Nat) : Int) := by
  simp [IntKind.wrap, IntKind.bits, IntKind.signed]
 rw [e2, nbits_or64 _ _ h4 (Nat.mod_lt _ (by omega)), h2]

set_option maxHeartbeats 400000 in
theorem fixed_any (a : Option Addr) (len cap : Nat) (bs : List UInt8) (size : Int) (w : World) (h : BsAt w a len cap bs) :
 Calls Tryz.prog 191 #[.slice a len cap, .int .i64 size] w fun e w' => e = .returned (.tuple #[.int .u64 ((fxRead bs size).1 : Nat), .int .i64 ((fxRead bs size).2 : Nat)]) ∧ w' = w := by
 have hcap := h.max
 have hle := h.le
 have hlen := h.size
 unfold maxLen at hcap
 by_cases hs : size < 1 ∨ 8 < size
 · have HE : Hid (fxRead bs size = (0, 1)) := by unfold fxRead Hid; rw [if_pos hs]
   go_enter Tryz.func191, Tryz.ntmps191
   go_wp2_with (go_at_call 216; refine (fits_no _ _ hs).mono ?_; rintro e w' ⟨rfl, rfl⟩)
   go_ret2
   rw [HE.out]
   exact ⟨ret2 rfl rfl, rfl⟩
 · have hs1 : 1 ≤ size := by omega
   have hs2 : size ≤ 8 := by omega
   obtain ⟨n, rfl⟩ : ∃ n : Nat, size = (n : Int) := ⟨size.toNat, by omega⟩
   by_cases hl : len < n
   · have HE : Hid (fxRead bs n = (0, 10)) := by unfold fxRead Hid; rw [if_neg hs, if_pos (by simp; omega)]
     clear hs
     go_enter Tryz.func191, Tryz.ntmps191
     go_wp2_with (go_at_call 216; refine (fits_yes _ _ hs1 hs2).mono ?_; rintro e w' ⟨rfl, rfl⟩)
     go_ret2
     rw [HE.out]
     exact ⟨ret2 rfl rfl, rfl⟩
   · have HE : Hid (fxRead bs n = (leNat (bs.take n), 0)) := by unfold fxRead Hid; rw [if_neg hs, if_neg (by simp; omega)]; simp
     obtain ⟨b, off, rfl, hc⟩ := h.here (by omega)
     have HL : Hid (bs.length = len) := hlen
     clear hs hlen h
     have HC : Hid (∀ j, j < len → w.cell? ⟨b, off + j, none⟩ = some (.int .u8 ((bs.getD j 0).toNat : Int))) := hc
     clear hc
     go_enter Tryz.func191, Tryz.ntmps191
     go_wp2_with (go_at_call 216; refine (fits_yes _ _ hs1 hs2).mono ?_; rintro e w' ⟨rfl, rfl⟩)
     go_loop [6, 20] (fun x i => ∃ k acc : Nat, k ≤ n ∧ i = .int .i64 k ∧ x = .int .u64 acc ∧ Hid (acc = leNat (bs.take k))) (fun _ i => n - (intOf i).toNat)
     case atStart => exact ⟨0, 0, Nat.zero_le _, rfl, rfl, by simp [Hid, leNat]⟩
     case round =>
      obtain ⟨k, acc, hk, rfl, rfl, HR⟩ := hrel
      by_cases hlt : k < n
      · have hck := HC.out k (by omega)
        have hc8 : (bs.getD k 0).toNat < 256 := UInt8.toNat_lt _
        have hs := leNat_take_succ bs k (by have := HL.out; omega)
        have ha := leNat_take_lt bs k (by have := HL.out; omega)
        rw [← HR.out] at hs ha
        generalize hcd : (bs.getD k 0).toNat = c at hck hc8 hs
        have HS : Hid (leNat (bs.take (k + 1)) = acc + c * 2 ^ (8 * k)) := hs
        have HA : Hid (acc < 2 ^ (8 * k)) := ha
        clear hcd hs ha
        go_wp2
        go_round
        case rel =>
         exact ⟨k + 1, acc + c * 2 ^ (8 * k), by omega, by go_num, congrArg (Value.int .u64) (fx_step acc c k hc8 HA.out (by omega)), HS.out.symm⟩
        case measure => simp [intOf]; omega
      · go_wp2
        go_ret2
        rw [HE.out]
        have hkn : k = n := by omega
        exact ⟨ret2 (by rw [HR.out, hkn]; rfl) rfl, rfl⟩
end Go.Proofs.YtmlfbihlbiikeaaGreatDoor
namespace Go.Proofs.YtmlfbihlbiikeaaGreatDoor
open Go.RowKit

structure Rec3 (w : World) (n : Nat) (x y z : Value) : Prop where
 c0 : w.cell? ⟨n, 0, none⟩ = some x
 c1 : w.cell? ⟨n, 1, none⟩ = some y
 c2 : w.cell? ⟨n, 2, none⟩ = some z
 f0 : w.frozen? ⟨n, 0, none⟩ = false
 f1 : w.frozen? ⟨n, 1, none⟩ = false
 f2 : w.frozen? ⟨n, 2, none⟩ = false
 lt : n < w.heap.size

theorem Rec3.new (w : World) (n : Nat) (hn : n = w.heap.size) (x y z : Value) (t : TypeId) : Rec3 (w.alloc (.cells #[x, y, z] t)) n x y z := by
 subst hn
 refine ⟨?_, ?_, ?_, ?_, ?_, ?_, by simp⟩ <;> simp
theorem Rec3.below {B n : Nat} {w w' : World} {x y z : Value} (h : Rec3 w n x y z) (hB : w.heap.size ≤ B) (hb : Below B w w') : Rec3 w' n x y z := by
 have hn : n < B := Nat.lt_of_lt_of_le h.lt hB
 refine ⟨?_, ?_, ?_, ?_, ?_, ?_, Nat.lt_of_lt_of_le h.lt hb.size⟩
 · rw [hb.cell hn]; exact h.c0
 · rw [hb.cell hn]; exact h.c1
 · rw [hb.cell hn]; exact h.c2
 · rw [hb.frozen hn]; exact h.f0
 · rw [hb.frozen hn]; exact h.f1
 · rw [hb.frozen hn]; exact h.f2
theorem Rec3.alloc {n : Nat} {w : World} {x y z : Value} (h : Rec3 w n x y z) (o : Obj) : Rec3 (w.alloc o) n x y z := h.below (Nat.le_refl _) ((Below.refl _ _).alloc (Nat.le_refl _) _)
end Go.Proofs.YtmlfbihlbiikeaaGreatDoor
namespace Go.Proofs.YtmlfbihlbiikeaaGreatDoor
open Go.RowKit

set_option maxHeartbeats 400000 in
theorem decode_any (a : Option Addr) (len cap : Nat) (bs : List UInt8) (w : World) (h : BsAt w a len cap bs) :
    Calls Tryz.prog 228 #[.slice a len cap] w fun e w' => e = .returned (.tuple #[.agg #[.string (strOf (keyUser bs)), .int .u64 ((keySeq bs : Nat) : Int), .int .i64 ((keyKind bs : Nat) : Int)], .int .i64 ((keyErr bs : Nat) : Int)]) ∧ Below w.heap.size w w' := by
  have hcap := h.max
  have hle := h.le
  have hlen := h.size
  unfold maxLen at hcap
  by_cases h1 : len < 8
  · have hno : keyOk bs = false := by rw [Bool.eq_false_iff, Ne, keyOk_iff]; omega
    have HE : Hid (keyUser bs = [] ∧ keySeq bs = 0 ∧ keyKind bs = 0 ∧ keyErr bs = 20) := by simp [Hid, keyUser, keySeq, keyKind, keyErr, hno]
    clear hlen h hno
    go_enter Tryz.func228, Tryz.ntmps228
    go_wp2
    obtain ⟨e1, e2, e3, e4⟩ := HE.out
    rw [e1, e2, e3, e4]
    refine bodyPost_ret (v := .tuple #[.agg #[.string (strOf []), .int .u64 0, .int .i64 0], .int .i64 20]) (by simp [results, Tryz.results228, go_sem, strOf]) rfl ⟨rfl, (Below.refl _ _).alloc (Nat.le_refl _) _⟩
  · by_cases h2 : 72 < len
    · have hno : keyOk bs = false := by rw [Bool.eq_false_iff, Ne, keyOk_iff]; omega
      have HE : Hid (keyUser bs = [] ∧ keySeq bs = 0 ∧ keyKind bs = 0 ∧ keyErr bs = 20) := by simp [Hid, keyUser, keySeq, keyKind, keyErr, hno]
      clear hlen h hno
      go_enter Tryz.func228, Tryz.ntmps228
      go_wp2
      obtain ⟨e1, e2, e3, e4⟩ := HE.out
      rw [e1, e2, e3, e4]
      refine bodyPost_ret (v := .tuple #[.agg #[.string (strOf []), .int .u64 0, .int .i64 0], .int .i64 20]) (by simp [results, Tryz.results228, go_sem, strOf]) rfl ⟨rfl, (Below.refl _ _).alloc (Nat.le_refl _) _⟩
    · obtain ⟨u, rfl⟩ : ∃ u, len = u + 8 := ⟨len - 8, by omega⟩
      obtain ⟨b, off, rfl, _⟩ := h.here (by omega)
      have HT : Hid (BsAt w (some ⟨b, off + u, none⟩) 8 (cap - u) (bs.drop u)) := by
        have := h.sub u 8 (by omega)
        rwa [List.take_of_length_le (by simp; omega)] at this
      have HU : Hid (BsAt w (some ⟨b, off, none⟩) u cap (bs.take u)) := h.upTo u (by omega)
      have HN : Hid (fxRead (bs.drop u) 8 = (keyNum bs, 0)) := by
        unfold fxRead keyNum Hid
        rw [if_neg (by omega), if_neg (by simp; omega), hlen]
        simp
        rw [List.take_of_length_le (by simp; omega)]
      have hlt := keyNum_lt bs
      have HX : Hid (bs.length = u + 8) := hlen
      generalize hnn : keyNum bs = n at hlt HN
      have hand : bits .and .u64 (n : Int) 255 = ((n % 256 : Nat) : Int) := by
        rw [show (255 : Int) = ((255 : Nat) : Int) by rfl, nbits_and64 _ _ hlt (by omega), show (255 : Nat) = 2 ^ 8 - 1 by rfl, Nat.and_two_pow_sub_one_eq_mod]
      have HS : Hid ((strOf (bs.take u)).size = u) := by
        show (bs.take u).toArray.size = u
        simp
        omega
      generalize hSS : strOf (bs.take u) = S at HS
      clear hlen h
      by_cases hk : n % 256 ≤ 1
      · have hok : keyOk bs = true := by rw [keyOk_iff, hnn, HX.out]; omega
        have HE : Hid (keyUser bs = bs.take u ∧ keySeq bs = n / 256 ∧ keyKind bs = n % 256 ∧ keyErr bs = 0) := by simp [Hid, keyUser, keySeq, keyKind, keyErr, hok, HX.out, hnn]
        have hck : ∀ W, Calls Tryz.prog 164 #[.agg #[.string S, .int .u64 ((n : Int) / 256), .int .i64 ((n : Int) % 256)]] W fun e w' => e = .returned (.int .i64 0) ∧ Below W.heap.size W w' := fun W => by
          have := check_any S (n / 256) ((n : Int) % 256) W (by rw [HS.out]; omega)
          rwa [chk_mk (by rw [HS.out]; omega) (by omega) (by omega), Int.natCast_ediv] at this
        clear hok hk
        go_enter Tryz.func228, Tryz.ntmps228
        go_wp2_with (first
          | (go_at_call 191; refine (fixed_any _ _ _ (bs.drop u) 8 _ (HT.out.alloc _)).mono ?_; rw [HN.out]; rintro e w1 ⟨rfl, rfl⟩; have hcv := conv_of (HU.out.alloc (.cells #[.string ⟨#[]⟩, .int .u64 0, .int .i64 0] 57)))
          | (go_at_call 164; refine (hck _).mono ?_; rintro e w2 ⟨rfl, hb2⟩
             have HB : Hid (Below w.heap.size w w2) := (((Below.refl _ w).alloc (Nat.le_refl _) _).alloc (by simp) _).trans (hb2.mono (by simp; omega))
             obtain ⟨c0, c1, c2, f0, f1, f2, hl⟩ := ((Rec3.new w w.heap.size rfl _ _ _ _).alloc _).below (Nat.le_refl _) hb2
             obtain ⟨d0, d1, d2, _, _, _, hm⟩ := (Rec3.new _ (w.heap.size + 1) (by simp) _ _ _ _).below (Nat.le_refl _) hb2
             clear hb2))
        obtain ⟨e1, e2, e3, e4⟩ := HE.out
        rw [e1, e2, e3, e4, hSS]
        refine bodyPost_ret (v := .tuple #[.agg #[.string S, .int .u64 ((n : Int) / 256), .int .i64 ((n : Int) % 256)], .int .i64 0]) (by simp [results, Tryz.results228, go_sem, *]) rfl ⟨rfl, ?_⟩
        exact ((HB.out.setCell (Nat.le_refl _) _).setCell (Nat.le_refl _) _).setCell (Nat.le_refl _) _
      · have hno : keyOk bs = false := by rw [Bool.eq_false_iff, Ne, keyOk_iff, hnn]; omega
        have HE : Hid (keyUser bs = [] ∧ keySeq bs = 0 ∧ keyKind bs = 0 ∧ keyErr bs = 20) := by simp [Hid, keyUser, keySeq, keyKind, keyErr, hno]
        have hck : ∀ W, Calls Tryz.prog 164 #[.agg #[.string S, .int .u64 ((n : Int) / 256), .int .i64 ((n : Int) % 256)]] W fun e w' => e = .returned (.int .i64 23) ∧ Below W.heap.size W w' := fun W => by
          have := check_any S (n / 256) ((n : Int) % 256) W (by rw [HS.out]; omega)
          rwa [show chk S.size (n / 256) ((n : Int) % 256) = 23 by unfold chk; rw [if_neg (by rw [HS.out]; omega), if_neg (by omega), if_neg (by omega)], Int.natCast_ediv] at this
        clear hno hk
        go_enter Tryz.func228, Tryz.ntmps228
        go_wp2_with (first
          | (go_at_call 191; refine (fixed_any _ _ _ (bs.drop u) 8 _ (HT.out.alloc _)).mono ?_; rw [HN.out]; rintro e w1 ⟨rfl, rfl⟩; have hcv := conv_of (HU.out.alloc (.cells #[.string ⟨#[]⟩, .int .u64 0, .int .i64 0] 57)))
          | (go_at_call 164; refine (hck _).mono ?_; rintro e w2 ⟨rfl, hb2⟩
             have HB : Hid (Below w.heap.size w w2) := (((Below.refl _ w).alloc (Nat.le_refl _) _).alloc (by simp) _).trans (hb2.mono (by simp; omega))
             obtain ⟨c0, c1, c2, f0, f1, f2, hl⟩ := ((Rec3.new w w.heap.size rfl _ _ _ _).alloc _).below (Nat.le_refl _) hb2
             obtain ⟨d0, d1, d2, _, _, _, hm⟩ := (Rec3.new _ (w.heap.size + 1) (by simp) _ _ _ _).below (Nat.le_refl _) hb2
             clear hb2))
        obtain ⟨e1, e2, e3, e4⟩ := HE.out
        rw [e1, e2, e3, e4]
        refine bodyPost_ret (v := .tuple #[.agg #[.string (strOf []), .int .u64 0, .int .i64 0], .int .i64 20]) (by simp [results, Tryz.results228, go_sem, strOf, *]) rfl ⟨rfl, ?_⟩
        exact ((HB.out.setCell (Nat.le_refl _) _).setCell (Nat.le_refl _) _).setCell (Nat.le_refl _) _
end Go.Proofs.YtmlfbihlbiikeaaGreatDoor
namespace Go.Proofs.YtmlfbihlbiikeaaGreatDoor
open Go.RowKit

theorem BsAt.ofStr (w : World) (s : ByteArray) (cap : Nat) (fz : Nat × Nat) (hs : s.size ≤ cap) (hc : cap ≤ maxLen) : BsAt (w.drew.alloc (.cells (bytesRow s cap) 5 fz)) (some ⟨w.heap.size, 0, none⟩) s.size cap s.data.toList := by
 have hl : s.data.toList.length = s.size := by rw [Array.length_toList]; rfl
 refine ⟨hl, hs, hc, by simp, fun _ => ⟨w.heap.size, 0, rfl, fun j hj => ?_⟩⟩
 rw [cell_of_row (w.drew.alloc (.cells (bytesRow s cap) 5 fz)) w.heap.size (0 + j) (bytesRow s cap) 5 fz (heap_alloc_new w.drew _)]
 have hj' : j < s.data.size := hj
 simp [bytesRow, List.getD, Array.getElem?_append, hj]
end Go.Proofs.YtmlfbihlbiikeaaGreatDoor
namespace Go.Proofs.YtmlfbihlbiikeaaGreatDoor
open Go.RowKit
abbrev TT : TypeId := 261
structure Tk (w0 w : World) (p : Nat) (b : List UInt8) : Prop where
 here : ∃ a n c, Box w p TT #[.slice a n c] ∧ BsAt w0 a n c b
 base : Below w0.heap.size w0 w
 new : w0.heap.size ≤ p
theorem Tk.lt {w0 w : World} {p : Nat} {b : List UInt8} (h : Tk w0 w p b) : p < w.heap.size := by
 obtain ⟨_, _, _, h1, _⟩ := h.here
 exact h1.lt
theorem Tk.stepB {w0 w w' : World} {p : Nat} {b : List UInt8} (h : Tk w0 w p b) (hc : Chg (· = p) w w') : Below w0.heap.size w0 w' := h.base.trans (hc.below (fun k e => by have := h.new; omega) h.base.size)
theorem Tk.call {w0 w w' : World} {p : Nat} {b : List UInt8} (h : Tk w0 w p b) (hb : Below w.heap.size w w') : Tk w0 w' p b := by
 obtain ⟨a, n, c, h1, h2⟩ := h.here
 exact ⟨⟨a, n, c, h1.kept (hb.block _ h1.lt), h2⟩, h.base.trans (hb.mono h.base.size), h.new⟩
theorem Tk.same {w0 w w' : World} {p : Nat} {b : List UInt8} (h : Tk w0 w p b) (hk : w'.heap[p]? = w.heap[p]?) (hb : Below w0.heap.size w0 w') : Tk w0 w' p b := by
 obtain ⟨a, n, c, h1, h2⟩ := h.here
 exact ⟨⟨a, n, c, h1.kept hk, h2⟩, hb, h.new⟩
theorem numR_some {b : List UInt8} {n k : Nat} (h : uvRead b = (n, k, 0)) : numR b = some (n, b.drop k) := by unfold numR; rw [h]; rfl
theorem numR_none {b : List UInt8} {n k e : Nat} (h : uvRead b = (n, k, e)) (he : e ≠ 0) : numR b = none := by unfold numR; rw [h]; simp [he]
set_option maxHeartbeats 1000000 in
theorem number_at {w0 w : World} {p : Nat} {b : List UInt8} (h : Tk w0 w p b) :
 Calls Tryz.prog 192 #[at_ p] w fun r w' => Chg (· = p) w w' ∧ w'.heap.size = w.heap.size ∧ ((numR b = none ∧ r = gaveUp) ∨ ∃ x b', numR b = some (x, b') ∧ r = .returned (.int .u64 (x : Int)) ∧ Tk w0 w' p b') := by
 obtain ⟨a, n, c, hbx, hbs⟩ := h.here
 have HT : Hid (Tk w0 w p b) := h
 have hc : w.cell? ⟨p, 0, none⟩ = some (.slice a n c) := hbx.cell 0
 have hz := hbx.soft 0
 have hok := uvRead_ok b
 obtain ⟨x, k, er, hr⟩ : ∃ x k er, uvRead b = (x, k, er) := ⟨_, _, _, rfl⟩
 rw [hr] at hok
 have hu := uvarint_eq (hbs.below (Nat.le_refl _) h.base) hr
 have hsz := hbs.size
 have HB : Hid (Box w p TT #[.slice a n c]) := hbx
 by_cases he : er = 0
 · subst he
   simp at hok
   have hkn : k ≤ n := by omega
   obtain ⟨a', hs, hb'⟩ := slice_any hbs k hkn
   have HN : Hid (numR b = some (x, b.drop k) ∧ BsAt w0 a' (n - k) (c - k) (b.drop k)) := ⟨numR_some hr, hb' _ _ hbs⟩
   clear hok hr hb' hbs hbx h hsz
   go_enter Tryz.func192, Tryz.ntmps192
   go_wp2_with fail
   refine hu.mono ?_
   rintro _ w1 ⟨rfl, hw⟩
   obtain rfl : w = w1 := hw.symm
   go_wp2_with fail
   refine (must_yes _).mono ?_
   rintro _ _ ⟨rfl, rfl⟩
   go_wp2
   go_ret
   have hch : Chg (· = p) w (w.setCell ⟨p, 0, none⟩ (.slice a' (n - k) (c - k))) := Chg.set (R := (· = p)) (Chg.refl _ _) (fun _ => rfl) _ _
   exact ⟨hch, by simp, .inr ⟨x, _, HN.out.1, ret1 rfl, ⟨_, _, _, (HB.out.set 0 _).eq (by simp), HN.out.2⟩, HT.out.stepB hch, HT.out.new⟩⟩
 · have HN : Hid (numR b = none) := numR_none hr he
   have hne : ((er : Int) == 0) = false := by simp; omega
   clear hok hr hbs hbx h
   go_enter Tryz.func192, Tryz.ntmps192
   go_wp2_with fail
   refine hu.mono ?_
   rintro _ w1 ⟨rfl, hw⟩
   obtain rfl : w = w1 := hw.symm
   go_wp2_with fail
   refine (must_no _).mono ?_
   rintro _ _ ⟨rfl, rfl⟩
   exact ⟨rfl, Chg.refl _ _, rfl, .inl ⟨HN.out, rfl⟩⟩
abbrev numV (p : Nat) : Value := .func (.func 192) #[at_ p] #[]
set_option maxHeartbeats 1000000 in
theorem count_at {w0 w : World} {p : Nat} {b : List UInt8} (lim : Nat) (h : Tk w0 w p b) :
 Calls Tryz.prog 193 #[numV p, .int .u64 (lim : Int)] w fun r w' => Chg (· = p) w w' ∧ ((cntR lim b = none ∧ r = gaveUp) ∨ ∃ x b', cntR lim b = some (x, b') ∧ x ≤ lim ∧ r = .returned (.int .u64 (x : Int)) ∧ Tk w0 w' p b') := by
 have hn := number_at h
 go_enter Tryz.func193, Tryz.ntmps193
 go_wp2_with fail
 refine hn.mono ?_
 rintro _ w1 ⟨hc, _, ⟨hno, rfl⟩ | ⟨x, b', hx, rfl, htk⟩⟩
 · exact ⟨rfl, hc, .inl ⟨by unfold cntR; rw [hno]; rfl, rfl⟩⟩
 · have H1 : Hid (Chg (· = p) w w1 ∧ Tk w0 w1 p b' ∧ numR b = some (x, b')) := ⟨hc, htk, hx⟩
   clear hc htk hx hn
   by_cases hle : x ≤ lim
   · go_wp2_with fail
     have hd : decide ((x : Int) ≤ (lim : Int)) = true := decide_eq_true (by omega)
     try rw [hd]
     refine (must_yes _).mono ?_
     rintro _ _ ⟨rfl, rfl⟩
     go_wp2
     go_ret
     exact ⟨H1.out.1, .inr ⟨x, b', by unfold cntR; rw [H1.out.2.2, Option.bind_some, if_pos (by omega)], by omega, ret1 rfl, H1.out.2.1⟩⟩
   · go_wp2_with fail
     have hd : decide ((x : Int) ≤ (lim : Int)) = false := decide_eq_false (by omega)
     try rw [hd]
     refine (must_no _).mono ?_
     rintro _ _ ⟨rfl, rfl⟩
     exact ⟨rfl, H1.out.1, .inl ⟨by unfold cntR; rw [H1.out.2.2, Option.bind_some, if_neg (by omega)], rfl⟩⟩
theorem conv_toI (k : Nat) (W : World) : (convert 23 3 (.int .u64 (k : Int))).run Tryz.prog W = .ok (.int .i64 (toI k)) W := by
 unfold toI
 generalize (k : Int) = z
 simp [convert, run_underlying Tryz.underlying23, run_underlying Tryz.underlying3, go_sem]
theorem Tk.alloc {w0 w : World} {p : Nat} {b : List UInt8} (h : Tk w0 w p b) (o : Obj) : Tk w0 (w.alloc o) p b := h.call ((Below.refl _ _).alloc (Nat.le_refl _) _)
set_option maxHeartbeats 1000000 in
theorem gone_at {w0 w : World} {p : Nat} {b : List UInt8} (h : Tk w0 w p b) :
 Calls Tryz.prog 194 #[numV p] w fun r w' => Chg (· = p) w w' ∧ ((takeG b = none ∧ r = gaveUp) ∨ ∃ g b', takeG b = some (g, b') ∧ r = .returned (.agg #[.int .i64 g.level, .int .u64 (g.num : Int)]) ∧ Tk w0 w' p b') := by
 have hn := number_at (h.alloc (.cells #[.int .i64 0, .int .u64 0] TG))
 have HP : Hid (Tk w0 w p b ∧ p < w.heap.size) := ⟨h, h.lt⟩
 have HC0 : Hid (Chg (· = p) w (w.alloc (.cells #[.int .i64 0, .int .u64 0] TG)) ∧ Box (w.alloc (.cells #[.int .i64 0, .int .u64 0] TG)) w.heap.size TG #[.int .i64 0, .int .u64 0]) := ⟨(Chg.refl _ _).alloc _, Box.new _ _ _⟩
 clear h
 go_enter Tryz.func194, Tryz.ntmps194
 go_wp2_with fail
 refine hn.mono ?_
 rintro _ w1 ⟨hc, _, ⟨hno, rfl⟩ | ⟨x, b', hx, rfl, htk⟩⟩
 · exact ⟨rfl, HC0.out.1.andThen hc (fun _ _ e => e), .inl ⟨by unfold takeG; rw [hno]; rfl, rfl⟩⟩
 · have H1 : Hid (Chg (· = p) w w1 ∧ numR b = some (x, b') ∧ Box w1 w.heap.size TG #[.int .i64 0, .int .u64 0]) := ⟨HC0.out.1.andThen hc (fun _ _ e => e), hx, HC0.out.2.kept (hc.block _ HC0.out.2.lt (by have := HP.out.2; omega))⟩
   have hcv := conv_toI x
   have hn2 := number_at htk
   have HTX : Hid (toI x = toI x) := rfl
   clear hc htk hx hn
   go_wp2_with fail
   refine hn2.mono ?_
   rintro _ w2 ⟨hc2, _, ⟨hno, rfl⟩ | ⟨y, b2, hy, rfl, htk2⟩⟩
   · exact ⟨rfl, H1.out.1.andThen hc2 (fun _ _ e => e), .inl ⟨by unfold takeG; rw [H1.out.2.1, Option.bind_some, hno]; rfl, rfl⟩⟩
   · have H2 : Hid (Chg (· = p) w w2 ∧ Tk w0 w2 p b2 ∧ Box w2 w.heap.size TG #[.int .i64 0, .int .u64 0]) := ⟨H1.out.1.andThen hc2 (fun _ _ e => e), htk2, H1.out.2.2.kept (hc2.block _ H1.out.2.2.lt (by have := HP.out.2; omega))⟩
     have HG : Hid (takeG b = some (⟨toI x, y⟩, b2)) := by
      show takeG b = _
      unfold takeG
      rw [H1.out.2.1, Option.bind_some, hy]
      rfl
     have c0 : w2.cell? ⟨w.heap.size, 0, none⟩ = some (.int .i64 0) := H2.out.2.2.cell 0
     have c1 : w2.cell? ⟨w.heap.size, 1, none⟩ = some (.int .u64 0) := H2.out.2.2.cell 1
     have z0 := H2.out.2.2.soft 0
     have z1 := H2.out.2.2.soft 1
     clear hc2 htk2 hy hn2
     generalize toI x = lv at HG hcv
     go_wp2
     have hlt := HP.out.2
     refine bodyPost_ret (v := .agg #[.int .i64 lv, .int .u64 (y : Int)]) (by simp [results, Tryz.results194, go_sem, c0, c1]) rfl ⟨(H2.out.1.set (fun e => by omega) _ _).set (fun e => by omega) _ _, .inr ⟨⟨lv, y⟩, b2, HG.out, rfl, ?_⟩⟩
     have hb := (Below.refl w.heap.size w2)
     refine H2.out.2.1.same ?_ ?_
     · rw [Below.heap_setCell _ _ _ _ (by show p ≠ w.heap.size; omega), Below.heap_setCell _ _ _ _ (by show p ≠ w.heap.size; omega)]
     · have hw := HP.out.1.base.size
       exact (H2.out.2.1.base.setCell (by show w0.heap.size ≤ w.heap.size; exact hw) _).setCell (by show w0.heap.size ≤ w.heap.size; exact hw) _
theorem txt_fits (bs : List UInt8) (h : (txtRead bs).2.2 = 0) : (txtRead bs).2.1 ≤ bs.length ∧ (txtRead bs).1.length ≤ bs.length := by
 have hu := uvRead_ok bs
 unfold txtRead at h ⊢
 by_cases h1 : (uvRead bs).2.2 ≠ 0
 · rw [if_pos h1] at h
   exact absurd h h1
 · rw [if_neg h1] at h ⊢
   by_cases h2 : bs.length - (uvRead bs).2.1 < (uvRead bs).1
   · rw [if_pos h2] at h
     simp at h
   · rw [if_neg h2]
     simp only [List.length_take, List.length_drop]
     omega
theorem text_eq {a : Option Addr} {len cap : Nat} {bs : List UInt8} {w : World} (h : BsAt w a len cap bs) {t : List UInt8} {k er : Nat} (hr : txtRead bs = (t, k, er)) :
 Calls Tryz.prog 227 #[.slice a len cap] w fun e w' => e = .returned (.tuple #[.string (strOf t), .int .i64 (k : Nat), .int .i64 (er : Nat)]) ∧ w' = w := by
 have := text_any a len cap bs w h
 rw [hr] at this
 exact this
theorem keyR_some {b t : List UInt8} {k : Nat} (h : txtRead b = (t, k, 0)) (hk : keyOk t = true) : keyR b = some (decKey t, b.drop k) := by unfold keyR; rw [h]; simp [hk]
theorem keyR_none {b t : List UInt8} {k e : Nat} (h : txtRead b = (t, k, e)) (he : e ≠ 0 ∨ keyOk t = false) : keyR b = none := by
 unfold keyR
 rw [h]
 rcases he with he | he <;> simp [he]
def k0 : Array Value := #[.string ⟨#[]⟩, .int .u64 0, .int .i64 0]
set_option maxHeartbeats 2000000 in
theorem key_at {w0 w : World} {p : Nat} {b : List UInt8} (h : Tk w0 w p b) (hl : b.length ≤ 200000000000000) :
 Calls Tryz.prog 195 #[at_ p] w fun r w' => Chg (· = p) w w' ∧ ((keyR b = none ∧ r = gaveUp) ∨ ∃ k b', keyR b = some (k, b') ∧ r = .returned (.agg #[.string k.user, .int .u64 (k.seq : Int), .int .i64 k.kind]) ∧ Tk w0 w' p b') := by
 obtain ⟨W1, e1, HW⟩ : ∃ W1, W1 = w.alloc (.cells k0 57) ∧ Hid (Chg (· = p) w W1 ∧ Box W1 w.heap.size 57 k0 ∧ Tk w0 W1 p b ∧ p ≠ w.heap.size) := ⟨_, rfl, (Chg.refl _ _).alloc _, Box.new _ _ _, h.alloc _, by have := h.lt; omega⟩
 have hpn := HW.out.2.2.2
 obtain ⟨a, n, c, hbx0, hbs⟩ := h.here
 have hc : w.cell? ⟨p, 0, none⟩ = some (.slice a n c) := hbx0.cell 0
 have hz := hbx0.soft 0
 have hpl : p < w.heap.size := hbx0.lt
 have hc1 : (w.alloc (.cells #[.string ⟨#[]⟩, .int .u64 0, .int .i64 0] 57)).cell? ⟨p, 0, none⟩ = some (.slice a n c) := (hbx0.alloc _).cell 0
 have hbx : Box W1 p TT #[.slice a n c] := by rw [e1]; exact hbx0.alloc _
 obtain ⟨t, k, er, hr⟩ : ∃ t k er, txtRead b = (t, k, er) := ⟨_, _, _, rfl⟩
 have hfit := txt_fits b
 rw [hr] at hfit
 simp only at hfit
 have hu := text_eq (hbs.below (Nat.le_refl _) HW.out.2.2.1.base) hr
 have hsz := hbs.size
 have HB : Hid (Box W1 p TT #[.slice a n c]) := hbx
 have HP : Hid (Tk w0 w p b) := h
 rw [e1] at hu
 by_cases he : er = 0
 · subst he
   obtain ⟨hkl, htl⟩ := hfit rfl
   have hkn : k ≤ n := by omega
   obtain ⟨a', hs, hb'⟩ := slice_any hbs k hkn
   have HS : Hid (BsAt w0 a' (n - k) (c - k) (b.drop k)) := hb' _ _ hbs
   have HR : Hid (txtRead b = (t, k, 0)) := hr
   have hts : (strOf t).size = t.length := str_len t
   have hcv : ∀ W : World, (convert 9 29 (.string (strOf t))).run Tryz.prog W = .ok (.slice (some ⟨W.heap.size, 0, none⟩) t.length (grownCap W t.length 0 5))
    (W.drew.alloc (.cells (bytesRow (strOf t) (grownCap W t.length 0 5)) 5 ((bytesRow (strOf t) (grownCap W t.length 0 5)).size, (bytesRow (strOf t) (grownCap W t.length 0 5)).size + 1))) := fun W => by
    have := run_bytes_of_string W 9 29 5 (strOf t) Tryz.underlying9 Tryz.underlying29 Tryz.underlying5
    rw [hts] at this
    exact this
   have HD : Hid (∀ (W : World) (g : Nat), g = W.heap.size → Calls Tryz.prog 228 #[.slice (some ⟨g, 0, none⟩) t.length (grownCap W t.length 0 5)] (W.drew.alloc (.cells (bytesRow (strOf t) (grownCap W t.length 0 5)) 5 ((bytesRow (strOf t) (grownCap W t.length 0 5)).size, (bytesRow (strOf t) (grownCap W t.length 0 5)).size + 1))) fun e w' => e = .returned (.tuple #[.agg #[.string (decKey t).user, .int .u64 ((decKey t).seq : Int), .int .i64 (decKey t).kind], .int .i64 ((keyErr t : Nat) : Int)]) ∧ Below W.heap.size W w') := fun W g hg => by
    subst hg
    have h1 := BsAt.ofStr W (strOf t) (grownCap W t.length 0 5) ((bytesRow (strOf t) (grownCap W t.length 0 5)).size, (bytesRow (strOf t) (grownCap W t.length 0 5)).size + 1) (by rw [hts]; exact grownCap_ge _ _ _ _) (grownCap_le_maxLen _ _ _ _ (by unfold maxLen; omega))
    rw [hts, show (strOf t).data.toList = t by simp [strOf]] at h1
    refine (decode_any _ _ _ t _ h1).mono ?_
    rintro e w' ⟨rfl, hb⟩
    exact ⟨rfl, (((Below.refl _ W).drew).alloc (Nat.le_refl _) _).trans (hb.mono (by simp))⟩
   have HKE : Hid (keyErr t = if keyOk t then 0 else 20) := rfl
   have HDK : Hid (keyOk t = true → keyR b = some (decKey t, b.drop k)) := fun hk => keyR_some hr hk
   have HDN : Hid (keyOk t = false → keyR b = none) := fun hk => keyR_none hr (.inr hk)
   clear hb' hbs hbx hbx0 h hsz hfit hr hts hkl htl
   generalize decKey t = dk at HD HDK
   go_enter Tryz.func195, Tryz.ntmps195
   go_wp2_with fail
   refine hu.mono ?_
   rintro _ w1 ⟨rfl, hw⟩
   obtain rfl : W1 = w1 := by rw [e1]; exact hw.symm
   have d0 : W1.cell? ⟨p, 0, none⟩ = some (.slice a n c) := HB.out.cell 0
   have y0 := HB.out.soft 0
   clear hw hu hc hz hc1 e1
   go_wp2_with fail
   refine (must_yes _).mono ?_
   rintro _ _ ⟨rfl, rfl⟩
   have H2 : Hid (Chg (· = p) w (W1.setCell ⟨p, 0, none⟩ (.slice a' (n - k) (c - k))) ∧ Box (W1.setCell ⟨p, 0, none⟩ (.slice a' (n - k) (c - k))) w.heap.size 57 k0 ∧ Tk w0 (W1.setCell ⟨p, 0, none⟩ (.slice a' (n - k) (c - k))) p (b.drop k) ∧ W1.heap.size = (W1.setCell ⟨p, 0, none⟩ (.slice a' (n - k) (c - k))).heap.size) := by
    have hch : Chg (· = p) W1 (W1.setCell ⟨p, 0, none⟩ (.slice a' (n - k) (c - k))) := Chg.set (R := (· = p)) (Chg.refl _ _) (fun _ => rfl) _ _
    exact ⟨HW.out.1.andThen hch (fun _ _ e => e), HW.out.2.1.other (Ne.symm hpn) _ _, ⟨⟨_, _, _, (HB.out.set 0 _).eq (by simp), HS.out⟩, HW.out.2.2.1.stepB hch, HW.out.2.2.1.new⟩, by simp⟩
   go_wp2_with fail
   generalize W1.setCell ⟨p, 0, none⟩ (.slice a' (n - k) (c - k)) = W2 at H2 ⊢
   refine (HD.out W2 W1.heap.size H2.out.2.2.2).mono ?_
   rintro _ w3 ⟨rfl, hb3⟩
   have H3 : Hid (Chg (· = p) w w3 ∧ Box w3 w.heap.size 57 k0 ∧ Tk w0 w3 p (b.drop k)) := ⟨H2.out.1.andThen (Chg.of hb3) (fun _ _ e => e), H2.out.2.1.kept (hb3.block _ H2.out.2.1.lt), H2.out.2.2.1.call hb3⟩
   have h3n : w.heap.size < w3.heap.size := H3.out.2.1.lt
   clear hb3 H2
   obtain ⟨W4, e4, H4⟩ : ∃ W4, W4 = w3.alloc (.cells #[.string dk.user, .int .u64 (dk.seq : Int), .int .i64 dk.kind] 57) ∧ Hid (Chg (· = p) w W4 ∧ Box W4 w.heap.size 57 k0 ∧ Tk w0 W4 p (b.drop k) ∧ Box W4 w3.heap.size 57 #[.string dk.user, .int .u64 (dk.seq : Int), .int .i64 dk.kind]) := ⟨_, rfl, H3.out.1.alloc _, H3.out.2.1.alloc _, H3.out.2.2.alloc _, Box.new _ _ _⟩
   have HE4 : Hid (∀ W, W = w3.alloc (.cells #[.string dk.user, .int .u64 (dk.seq : Int), .int .i64 dk.kind] 57) → W = W4) := by rintro W rfl; exact e4.symm
   clear e4
   cases hk : keyOk t with
   | false =>
    have HK : Hid (keyR b = none) := HDN.out hk
    rw [show keyErr t = 20 by rw [HKE.out, hk]; rfl]
    go_wp2_with fail
    refine (must_no _).mono ?_
    rintro _ w5 ⟨rfl, hw5⟩
    obtain rfl : w5 = W4 := HE4.out _ hw5.symm
    exact ⟨rfl, H4.out.1, .inl ⟨HK.out, rfl⟩⟩
   | true =>
    have HK : Hid (keyR b = some (dk, b.drop k)) := HDK.out hk
    rw [show keyErr t = 0 by rw [HKE.out, hk]; rfl]
    go_wp2_with fail
    refine (must_yes _).mono ?_
    rintro _ w5 ⟨rfl, hw5⟩
    obtain rfl : w5 = W4 := HE4.out _ hw5.symm
    have x0 : w5.cell? ⟨w.heap.size, 0, none⟩ = some (.string ⟨#[]⟩) := H4.out.2.1.cell 0
    have x1 : w5.cell? ⟨w.heap.size, 1, none⟩ = some (.int .u64 0) := H4.out.2.1.cell 1
    have x2 : w5.cell? ⟨w.heap.size, 2, none⟩ = some (.int .i64 0) := H4.out.2.1.cell 2
    have q0 : w5.cell? ⟨w3.heap.size, 0, none⟩ = some (.string dk.user) := H4.out.2.2.2.cell 0
    have q1 : w5.cell? ⟨w3.heap.size, 1, none⟩ = some (.int .u64 (dk.seq : Int)) := H4.out.2.2.2.cell 1
    have q2 : w5.cell? ⟨w3.heap.size, 2, none⟩ = some (.int .i64 dk.kind) := H4.out.2.2.2.cell 2
    have z0 := H4.out.2.1.soft 0
    have z1 := H4.out.2.1.soft 1
    have z2 := H4.out.2.1.soft 2
    clear hw5 HE4 H3
    go_wp2
    refine bodyPost_ret (v := .agg #[.string dk.user, .int .u64 (dk.seq : Int), .int .i64 dk.kind]) (by simp [results, Tryz.results195, go_sem, x0, x1, x2]) rfl ⟨((H4.out.1.set (fun e => by omega) _ _).set (fun e => by omega) _ _).set (fun e => by omega) _ _, .inr ⟨dk, b.drop k, HK.out, rfl, ?_⟩⟩
    refine H4.out.2.2.1.same ?_ ?_
    · rw [Below.heap_setCell _ _ _ _ hpn, Below.heap_setCell _ _ _ _ hpn, Below.heap_setCell _ _ _ _ hpn]
    · have hw := HP.out.base.size
      exact ((H4.out.2.2.1.base.setCell (by show w0.heap.size ≤ w.heap.size; exact hw) _).setCell (by show w0.heap.size ≤ w.heap.size; exact hw) _).setCell (by show w0.heap.size ≤ w.heap.size; exact hw) _
 · have HN : Hid (keyR b = none) := keyR_none hr (.inl he)
   have hne : ((er : Int) == 0) = false := by simp; omega
   clear hfit hr hbs hbx h
   go_enter Tryz.func195, Tryz.ntmps195
   go_wp2_with fail
   refine hu.mono ?_
   rintro _ w1 ⟨rfl, hw⟩
   go_wp2_with fail
   refine (must_no _).mono ?_
   rintro _ w2 ⟨rfl, hw2⟩
   refine ⟨rfl, ?_, .inl ⟨HN.out, rfl⟩⟩
   rw [← hw2]
   first | exact (e1 ▸ HW.out.1 : Chg (· = p) w (w.alloc (.cells k0 57))) | (rw [hw, ← e1]; exact HW.out.1)
end Go.Proofs.YtmlfbihlbiikeaaGreatDoor
