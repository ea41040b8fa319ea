/- The contracts of codec's PutUvarint and PutText, behind no bytes. -/
import Derived.Test.YtnlobehagneomaaPutTx
import Derived.Test.YtnlobehagneomaaText
namespace Go.Proofs.Ytnlobehagneomaa
open Go.RowKit
theorem putUv_nil (n L : Nat) (w : World) (hn : n < 18446744073709551616) (hL : (uvEnc n).length = L) :
    Calls Try.prog 11 #[.slice none 0 0, .int .u64 (n : Int)] w fun e w' => ∃ a' c', e = .returned (.slice a' L c') ∧ BsAt w' a' L c' (uvEnc n) ∧ Below w.heap.size w w' := by
  refine (putUvarint_any none 0 0 [] n w (BsAt.nil w) hn (by omega)).mono ?_
  rintro e w' ⟨a', c', rfl, ho, hb⟩
  rw [hL, Nat.zero_add] at ho ⊢
  exact ⟨a', c', rfl, ho.bs, hb⟩
theorem putText_nil (s : ByteArray) (L : Nat) (w : World) (hs : s.size ≤ 140737488355000) (hL : (txtPut s.data.toList).length = L) :
    Calls Try.prog 13 #[.slice none 0 0, .string s] w fun e w' => ∃ a' c', e = .returned (.slice a' L c') ∧ BsAt w' a' L c' (txtPut s.data.toList) ∧ Below w.heap.size w w' := by
  refine (putText_any none 0 0 [] s w (BsAt.nil w) (by omega)).mono ?_
  rintro e w' ⟨a', c', rfl, ho, hb⟩
  rw [hL, Nat.zero_add] at ho ⊢
  exact ⟨a', c', rfl, ho.bs, hb⟩
theorem text_eq {a : Option Addr} {len cap : Nat} {bs : List UInt8} {w : World} (h : BsAt w a len cap bs) {l : List UInt8} {k er : Nat} (hr : txtRead bs = (l, k, er)) :
    Calls Try.prog 22 #[.slice a len cap] w fun e w' => e = .returned (.tuple #[.string (strOf l), .int .i64 (k : Nat), .int .i64 (er : Nat)]) ∧ w' = w := by
  have := text_any a len cap bs w h
  rw [hr] at this
  exact this
theorem text_str {a : Option Addr} {len cap : Nat} {bs : List UInt8} {w : World} (h : BsAt w a len cap bs) {s : ByteArray} {k er : Nat} (hr : txtRead bs = (s.data.toList, k, er)) :
    Calls Try.prog 22 #[.slice a len cap] w fun e w' => e = .returned (.tuple #[.string s, .int .i64 (k : Nat), .int .i64 (er : Nat)]) ∧ w' = w := text_eq h hr
end Go.Proofs.Ytnlobehagneomaa
