/- The contracts of codec's PutFixed, behind no bytes, and of Fixed. -/
import Derived.Test.YtjlmjgbkeibaiaaPutFx
import Derived.Test.YtjlmjgbkeibaiaaFx
namespace Go.Proofs.Ytjlmjgbkeibaiaa
open Go.RowKit
theorem putFixed_nil (n L : Nat) (size : Int) (w : World) (hn : n < 18446744073709551616) (hL : (fxPut n size).length = L) :
    Calls Try.prog 23 #[.slice none 0 0, .int .u64 (n : Int), .int .i64 size] w fun e w' => ∃ a' c', e = .returned (.slice a' L c') ∧ BsAt w' a' L c' (fxPut n size) ∧ Below w.heap.size w w' := by
  refine (putFixed_any none 0 0 [] n size w (BsAt.nil w) hn (by omega)).mono ?_
  rintro e w' ⟨a', c', rfl, ho, hb⟩
  rw [hL, Nat.zero_add] at ho ⊢
  exact ⟨a', c', rfl, ho.bs, hb⟩
theorem fixed_eq {a : Option Addr} {len cap : Nat} {bs : List UInt8} {size : Int} {w : World} (h : BsAt w a len cap bs) {n er : Nat} (hr : fxRead bs size = (n, er)) :
    Calls Try.prog 66 #[.slice a len cap, .int .i64 size] w fun e w' => e = .returned (.tuple #[.int .u64 (n : Nat), .int .i64 (er : Nat)]) ∧ w' = w := by
  have := fixed_any a len cap bs size w h
  rw [hr] at this
  exact this
end Go.Proofs.Ytjlmjgbkeibaiaa
