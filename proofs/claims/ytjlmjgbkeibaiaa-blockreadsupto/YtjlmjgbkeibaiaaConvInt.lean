/- A number of 64 bits without a sign as an int: small ones stay what they are. -/
import Derived.Test.YtjlmjgbkeibaiaaChecked
import Derived.Test.YtjlmjgbkeibaiaaMem
namespace Go.Proofs.Ytjlmjgbkeibaiaa
open Go.RowKit
theorem i64_wrap (k : Nat) (h : k < 9223372036854775808) : IntKind.i64.wrap (k : Int) = (k : Int) := by
  simp [IntKind.wrap, IntKind.bits, IntKind.signed]
  omega
theorem conv_u64_int (k : Nat) (h : k < 9223372036854775808) (W : World) : (convert 30 3 (.int .u64 (k : Int))).run Try.prog W = .ok (.int .i64 (k : Int)) W := by
  have e := i64_wrap k h
  generalize (k : Int) = z at e ⊢
  simp [convert, run_underlying Try.underlying30, run_underlying Try.underlying3, go_sem, e]
end Go.Proofs.Ytjlmjgbkeibaiaa
