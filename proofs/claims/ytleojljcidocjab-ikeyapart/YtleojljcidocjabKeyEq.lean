/- Two keys held against one another by the language's own equality. -/
import Derived.Test.YtleojljcidocjabChecked
import Derived.Test.YtleojljcidocjabMem
namespace Go.Proofs.Ytleojljcidocjab
open Go.RowKit
/-- The keys are the same. -/
def keyEq (s t : ByteArray) (q r k l : Int) : Bool := (s.toList == t.toList) && ((q == r) && (k == l))
theorem run_eql_key (s t : ByteArray) (q r k l : Int) (W : World) : (binOp .eql 24 (.agg #[.string s, .int .u64 q, .int .i64 k]) (.agg #[.string t, .int .u64 r, .int .i64 l])).run Try.prog W = .ok (.bool (keyEq s t q r k l)) W := by
  unfold keyEq
  by_cases h1 : (s.toList == t.toList) = true
  · by_cases h2 : (q == r) = true
    · by_cases h3 : (k == l) = true
      · simp [go_sem, h1, h2, h3, Try.underlying24, Try.underlying9, Try.underlying22, Try.underlying3]
      · simp [go_sem, h1, h2, h3, Try.underlying24, Try.underlying9, Try.underlying22, Try.underlying3]
    · simp [go_sem, h1, h2, Try.underlying24, Try.underlying9, Try.underlying22, Try.underlying3]
  · simp [go_sem, h1, Try.underlying24, Try.underlying9, Try.underlying22, Try.underlying3]
theorem run_neq_key (s t : ByteArray) (q r k l : Int) (W : World) : (binOp .neq 24 (.agg #[.string s, .int .u64 q, .int .i64 k]) (.agg #[.string t, .int .u64 r, .int .i64 l])).run Try.prog W = .ok (.bool (!keyEq s t q r k l)) W := by
  unfold keyEq
  by_cases h1 : (s.toList == t.toList) = true
  · by_cases h2 : (q == r) = true
    · by_cases h3 : (k == l) = true
      · simp [go_sem, h1, h2, h3, Try.underlying24, Try.underlying9, Try.underlying22, Try.underlying3]
      · simp [go_sem, h1, h2, h3, Try.underlying24, Try.underlying9, Try.underlying22, Try.underlying3]
    · simp [go_sem, h1, h2, Try.underlying24, Try.underlying9, Try.underlying22, Try.underlying3]
  · simp [go_sem, h1, Try.underlying24, Try.underlying9, Try.underlying22, Try.underlying3]
end Go.Proofs.Ytleojljcidocjab
