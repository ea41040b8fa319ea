/- The contract of ikey.Decode: the key of bytes, as plain functions tell it. -/
import Derived.Test.YtiflepadjcpjjaaQa01
import Derived.Test.YtiflepadjcpjjaaQa04
import Derived.Test.YtiflepadjcpjjaaQa02
namespace Go.Proofs.Ytiflepadjcpjjaa
open Go.RowKit

set_option maxRecDepth 100000 in
set_option maxHeartbeats 400000 in
theorem decode_any (a : Option Addr) (len cap : Nat) (bs : List UInt8) (w : World) (h : BsAt w a len cap bs) :
    Calls Try.prog 56 #[.slice a len cap] w fun e w' => e = .returned (.tuple #[.agg #[.string (strOf (keyUser bs)), .int .u64 ((keySeq bs : Nat) : Int), .int .i64 ((keyKind bs : Nat) : Int)], .int .i64 ((keyErr bs : Nat) : Int)]) ∧ Below w.heap.size w w' := by
  have hcap := h.max
  have hle := h.le
  have hlen := h.size
  unfold maxLen at hcap
  by_cases h1 : len < 8
  · have hno : keyOk bs = false := by rw [Bool.eq_false_iff, Ne, keyOk_iff]; omega
    have HE : Hid (keyUser bs = [] ∧ keySeq bs = 0 ∧ keyKind bs = 0 ∧ keyErr bs = 20) := by simp [Hid, keyUser, keySeq, keyKind, keyErr, hno]
    clear hlen h hno
    go_enter Try.func56, Try.ntmps56
    go_wp2
    obtain ⟨e1, e2, e3, e4⟩ := HE.out
    rw [e1, e2, e3, e4]
    refine bodyPost_ret (v := .tuple #[.agg #[.string (strOf []), .int .u64 0, .int .i64 0], .int .i64 20]) (by simp [results, Try.results56, go_sem, strOf]) rfl ⟨rfl, (Below.refl _ _).alloc (Nat.le_refl _) _⟩
  · by_cases h2 : 72 < len
    · have hno : keyOk bs = false := by rw [Bool.eq_false_iff, Ne, keyOk_iff]; omega
      have HE : Hid (keyUser bs = [] ∧ keySeq bs = 0 ∧ keyKind bs = 0 ∧ keyErr bs = 20) := by simp [Hid, keyUser, keySeq, keyKind, keyErr, hno]
      clear hlen h hno
      go_enter Try.func56, Try.ntmps56
      go_wp2
      obtain ⟨e1, e2, e3, e4⟩ := HE.out
      rw [e1, e2, e3, e4]
      refine bodyPost_ret (v := .tuple #[.agg #[.string (strOf []), .int .u64 0, .int .i64 0], .int .i64 20]) (by simp [results, Try.results56, go_sem, strOf]) rfl ⟨rfl, (Below.refl _ _).alloc (Nat.le_refl _) _⟩
    · obtain ⟨u, rfl⟩ : ∃ u, len = u + 8 := ⟨len - 8, by omega⟩
      obtain ⟨b, off, rfl, _⟩ := h.here (by omega)
      have HT : Hid (BsAt w (some ⟨b, off + u, none⟩) 8 (cap - u) (bs.drop u)) := by
        have := h.sub u 8 (by omega)
        rwa [List.take_of_length_le (by simp; omega)] at this
      have HU : Hid (BsAt w (some ⟨b, off, none⟩) u cap (bs.take u)) := h.upTo u (by omega)
      have HN : Hid (fxRead (bs.drop u) 8 = (keyNum bs, 0)) := by
        unfold fxRead keyNum Hid
        rw [if_neg (by omega), if_neg (by simp; omega), hlen]
        simp
        rw [List.take_of_length_le (by simp; omega)]
      have hlt := keyNum_lt bs
      have HX : Hid (bs.length = u + 8) := hlen
      generalize hnn : keyNum bs = n at hlt HN
      have hand : bits .and .u64 (n : Int) 255 = ((n % 256 : Nat) : Int) := by
        rw [show (255 : Int) = ((255 : Nat) : Int) by rfl, nbits_and64 _ _ hlt (by omega), show (255 : Nat) = 2 ^ 8 - 1 by rfl, Nat.and_two_pow_sub_one_eq_mod]
      have HS : Hid ((strOf (bs.take u)).size = u) := by
        show (bs.take u).toArray.size = u
        simp
        omega
      generalize hSS : strOf (bs.take u) = S at HS
      clear hlen h
      by_cases hk : n % 256 ≤ 1
      · have hok : keyOk bs = true := by rw [keyOk_iff, hnn, HX.out]; omega
        have HE : Hid (keyUser bs = bs.take u ∧ keySeq bs = n / 256 ∧ keyKind bs = n % 256 ∧ keyErr bs = 0) := by simp [Hid, keyUser, keySeq, keyKind, keyErr, hok, HX.out, hnn]
        have hck : ∀ W, Calls Try.prog 38 #[.agg #[.string S, .int .u64 ((n : Int) / 256), .int .i64 ((n : Int) % 256)]] W fun e w' => e = .returned (.int .i64 0) ∧ Below W.heap.size W w' := fun W => by
          have := check_any S (n / 256) ((n : Int) % 256) W (by rw [HS.out]; omega)
          rwa [chk_mk (by rw [HS.out]; omega) (by omega) (by omega), Int.natCast_ediv] at this
        clear hok hk
        go_enter Try.func56, Try.ntmps56
        go_wp2_with (first
          | (go_at_call 62; refine (fixed_any _ _ _ (bs.drop u) 8 _ (HT.out.alloc _)).mono ?_; rw [HN.out]; rintro e w1 ⟨rfl, rfl⟩; have hcv := conv_of (HU.out.alloc (.cells #[.string ⟨#[]⟩, .int .u64 0, .int .i64 0] 42)))
          | (go_at_call 38; refine (hck _).mono ?_; rintro e w2 ⟨rfl, hb2⟩
             have HB : Hid (Below w.heap.size w w2) := (((Below.refl _ w).alloc (Nat.le_refl _) _).alloc (by simp) _).trans (hb2.mono (by simp; omega))
             obtain ⟨c0, c1, c2, f0, f1, f2, hl⟩ := ((Rec3.new w w.heap.size rfl _ _ _ _).alloc _).below (Nat.le_refl _) hb2
             obtain ⟨d0, d1, d2, _, _, _, hm⟩ := (Rec3.new _ (w.heap.size + 1) (by simp) _ _ _ _).below (Nat.le_refl _) hb2
             clear hb2))
        obtain ⟨e1, e2, e3, e4⟩ := HE.out
        rw [e1, e2, e3, e4, hSS]
        refine bodyPost_ret (v := .tuple #[.agg #[.string S, .int .u64 ((n : Int) / 256), .int .i64 ((n : Int) % 256)], .int .i64 0]) (by simp [results, Try.results56, go_sem, *]) rfl ⟨rfl, ?_⟩
        exact ((HB.out.setCell (Nat.le_refl _) _).setCell (Nat.le_refl _) _).setCell (Nat.le_refl _) _
      · have hno : keyOk bs = false := by rw [Bool.eq_false_iff, Ne, keyOk_iff, hnn]; omega
        have HE : Hid (keyUser bs = [] ∧ keySeq bs = 0 ∧ keyKind bs = 0 ∧ keyErr bs = 20) := by simp [Hid, keyUser, keySeq, keyKind, keyErr, hno]
        have hck : ∀ W, Calls Try.prog 38 #[.agg #[.string S, .int .u64 ((n : Int) / 256), .int .i64 ((n : Int) % 256)]] W fun e w' => e = .returned (.int .i64 23) ∧ Below W.heap.size W w' := fun W => by
          have := check_any S (n / 256) ((n : Int) % 256) W (by rw [HS.out]; omega)
          rwa [show chk S.size (n / 256) ((n : Int) % 256) = 23 by unfold chk; rw [if_neg (by rw [HS.out]; omega), if_neg (by omega), if_neg (by omega)], Int.natCast_ediv] at this
        clear hno hk
        go_enter Try.func56, Try.ntmps56
        go_wp2_with (first
          | (go_at_call 62; refine (fixed_any _ _ _ (bs.drop u) 8 _ (HT.out.alloc _)).mono ?_; rw [HN.out]; rintro e w1 ⟨rfl, rfl⟩; have hcv := conv_of (HU.out.alloc (.cells #[.string ⟨#[]⟩, .int .u64 0, .int .i64 0] 42)))
          | (go_at_call 38; refine (hck _).mono ?_; rintro e w2 ⟨rfl, hb2⟩
             have HB : Hid (Below w.heap.size w w2) := (((Below.refl _ w).alloc (Nat.le_refl _) _).alloc (by simp) _).trans (hb2.mono (by simp; omega))
             obtain ⟨c0, c1, c2, f0, f1, f2, hl⟩ := ((Rec3.new w w.heap.size rfl _ _ _ _).alloc _).below (Nat.le_refl _) hb2
             obtain ⟨d0, d1, d2, _, _, _, hm⟩ := (Rec3.new _ (w.heap.size + 1) (by simp) _ _ _ _).below (Nat.le_refl _) hb2
             clear hb2))
        obtain ⟨e1, e2, e3, e4⟩ := HE.out
        rw [e1, e2, e3, e4]
        refine bodyPost_ret (v := .tuple #[.agg #[.string (strOf []), .int .u64 0, .int .i64 0], .int .i64 20]) (by simp [results, Try.results56, go_sem, strOf, *]) rfl ⟨rfl, ?_⟩
        exact ((HB.out.setCell (Nat.le_refl _) _).setCell (Nat.le_refl _) _).setCell (Nat.le_refl _) _
end Go.Proofs.Ytiflepadjcpjjaa
/- A string as bytes: a new row of its letters. -/
namespace Go.Proofs.Ytiflepadjcpjjaa
open Go.RowKit

/-- A string as bytes: a new row that reads as its letters. -/
theorem BsAt.ofStr (w : World) (s : ByteArray) (cap : Nat) (fz : Nat × Nat) (hs : s.size ≤ cap) (hc : cap ≤ maxLen) : BsAt (w.drew.alloc (.cells (bytesRow s cap) 5 fz)) (some ⟨w.heap.size, 0, none⟩) s.size cap s.data.toList := by
  have hl : s.data.toList.length = s.size := by rw [Array.length_toList]; rfl
  refine ⟨hl, hs, hc, by simp, fun _ => ⟨w.heap.size, 0, rfl, fun j hj => ?_⟩⟩
  rw [cell_of_row (w.drew.alloc (.cells (bytesRow s cap) 5 fz)) w.heap.size (0 + j) (bytesRow s cap) 5 fz (heap_alloc_new w.drew _)]
  have hj' : j < s.data.size := hj
  simp [bytesRow, List.getD, Array.getElem?_append, hj]
end Go.Proofs.Ytiflepadjcpjjaa
