/- The contract of the document's own Decode: the key of bytes, as plain functions tell it. -/
import Derived.Test.YtjlmjgbkeibaiaaKeyPlain
import Derived.Test.YtjlmjgbkeibaiaaRFx
import Derived.Test.YtjlmjgbkeibaiaaOwn
import Derived.Test.YtjlmjgbkeibaiaaRec
namespace Go.Proofs.Ytjlmjgbkeibaiaa
open Go.RowKit

set_option maxRecDepth 100000 in
set_option maxHeartbeats 400000 in
theorem rdecode_any (a : Option Addr) (len cap : Nat) (bs : List UInt8) (w : World) (h : BsAt w a len cap bs) :
    Calls Try.prog 35 #[.slice a len cap] w fun e w' => e = .returned (.tuple #[.agg #[.string (strOf (keyUser bs)), .int .u64 ((keySeq bs : Nat) : Int), .int .i64 ((keyKind bs : Nat) : Int)], .int .i64 ((keyErr bs : Nat) : Int)]) ∧ Below w.heap.size w w' := by
  have hcap := h.max
  have hle := h.le
  have hlen := h.size
  unfold maxLen at hcap
  by_cases h1 : len < 8
  · have hno : keyOk bs = false := by rw [Bool.eq_false_iff, Ne, keyOk_iff]; omega
    have HE : Hid (keyUser bs = [] ∧ keySeq bs = 0 ∧ keyKind bs = 0 ∧ keyErr bs = 20) := by simp [Hid, keyUser, keySeq, keyKind, keyErr, hno]
    clear hlen h hno
    go_enter Try.func35, Try.ntmps35
    go_wp2
    obtain ⟨e1, e2, e3, e4⟩ := HE.out
    rw [e1, e2, e3, e4]
    refine bodyPost_ret (v := .tuple #[.agg #[.string (strOf []), .int .u64 0, .int .i64 0], .int .i64 20]) (by simp [results, Try.results35, go_sem, strOf]) rfl ⟨rfl, (Below.refl _ _).alloc (Nat.le_refl _) _⟩
  · by_cases h2 : 72 < len
    · have hno : keyOk bs = false := by rw [Bool.eq_false_iff, Ne, keyOk_iff]; omega
      have HE : Hid (keyUser bs = [] ∧ keySeq bs = 0 ∧ keyKind bs = 0 ∧ keyErr bs = 20) := by simp [Hid, keyUser, keySeq, keyKind, keyErr, hno]
      clear hlen h hno
      go_enter Try.func35, Try.ntmps35
      go_wp2
      obtain ⟨e1, e2, e3, e4⟩ := HE.out
      rw [e1, e2, e3, e4]
      refine bodyPost_ret (v := .tuple #[.agg #[.string (strOf []), .int .u64 0, .int .i64 0], .int .i64 20]) (by simp [results, Try.results35, go_sem, strOf]) rfl ⟨rfl, (Below.refl _ _).alloc (Nat.le_refl _) _⟩
    · obtain ⟨u, rfl⟩ : ∃ u, len = u + 8 := ⟨len - 8, by omega⟩
      obtain ⟨b, off, rfl, _⟩ := h.here (by omega)
      have HT : Hid (BsAt w (some ⟨b, off + u, none⟩) 8 (cap - u) (bs.drop u)) := by
        have := h.sub u 8 (by omega)
        rwa [List.take_of_length_le (by simp; omega)] at this
      have HU : Hid (BsAt w (some ⟨b, off, none⟩) u cap (bs.take u)) := h.upTo u (by omega)
      have HN : Hid (fxRead (bs.drop u) 8 = (keyNum bs, 0)) := by
        unfold fxRead keyNum Hid
        rw [if_neg (by omega), if_neg (by simp; omega), hlen]
        simp
        rw [List.take_of_length_le (by simp; omega)]
      have hlt := keyNum_lt bs
      have HX : Hid (bs.length = u + 8) := hlen
      generalize hnn : keyNum bs = n at hlt HN
      have HS : Hid ((strOf (bs.take u)).size = u) := by
        show (bs.take u).toArray.size = u
        simp
        omega
      generalize hSS : strOf (bs.take u) = S at HS
      clear hlen h
      by_cases hk : n % 256 ≤ 1
      · have hok : keyOk bs = true := by rw [keyOk_iff, hnn, HX.out]; omega
        have HE : Hid (keyUser bs = bs.take u ∧ keySeq bs = n / 256 ∧ keyKind bs = n % 256 ∧ keyErr bs = 0) := by simp [Hid, keyUser, keySeq, keyKind, keyErr, hok, HX.out, hnn]
        clear hok
        go_enter Try.func35, Try.ntmps35
        go_wp2_with (first
          | (go_at_call 33; refine (rfixed_any _ _ _ (bs.drop u) 8 _ (HT.out.alloc _)).mono ?_; rw [HN.out]; rintro e w1 ⟨rfl, rfl⟩; have hcv := conv_of (HU.out.alloc (.cells #[.string ⟨#[]⟩, .int .u64 0, .int .i64 0] 32))))
        obtain ⟨e1, e2, e3, e4⟩ := HE.out
        rw [e1, e2, e3, e4, hSS]
        refine bodyPost_ret (v := .tuple #[.agg #[.string S, .int .u64 ((n : Int) / 256), .int .i64 ((n : Int) % 256)], .int .i64 0]) (by simp [results, Try.results35, go_sem, *]) rfl ⟨rfl, ?_⟩
        exact (Below.refl _ _).alloc (Nat.le_refl _) _
      · have hno : keyOk bs = false := by rw [Bool.eq_false_iff, Ne, keyOk_iff, hnn]; omega
        have HE : Hid (keyUser bs = [] ∧ keySeq bs = 0 ∧ keyKind bs = 0 ∧ keyErr bs = 20) := by simp [Hid, keyUser, keySeq, keyKind, keyErr, hno]
        clear hno
        go_enter Try.func35, Try.ntmps35
        go_wp2_with (first
          | (go_at_call 33; refine (rfixed_any _ _ _ (bs.drop u) 8 _ (HT.out.alloc _)).mono ?_; rw [HN.out]; rintro e w1 ⟨rfl, rfl⟩; have hcv := conv_of (HU.out.alloc (.cells #[.string ⟨#[]⟩, .int .u64 0, .int .i64 0] 32))))
        obtain ⟨e1, e2, e3, e4⟩ := HE.out
        rw [e1, e2, e3, e4]
        refine bodyPost_ret (v := .tuple #[.agg #[.string (strOf []), .int .u64 0, .int .i64 0], .int .i64 20]) (by simp [results, Try.results35, go_sem, strOf, *]) rfl ⟨rfl, ?_⟩
        exact (Below.refl _ _).alloc (Nat.le_refl _) _
end Go.Proofs.Ytjlmjgbkeibaiaa
