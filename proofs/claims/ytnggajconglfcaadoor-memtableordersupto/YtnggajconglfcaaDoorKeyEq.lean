/- Two keys held against one another by the language's own equality. -/
import Derived.Test.YtnggajconglfcaaDoorChecked
import Derived.Test.YtnggajconglfcaaDoorPdPlain
namespace Go.Proofs.YtnggajconglfcaaDoor
open Go.RowKit
/-- The keys are the same. -/
def keyEq (s t : ByteArray) (q r k l : Int) : Bool := (s.toList == t.toList) && ((q == r) && (k == l))
theorem run_eql_key (s t : ByteArray) (q r k l : Int) (W : World) : (binOp .eql 32 (.agg #[.string s, .int .u64 q, .int .i64 k]) (.agg #[.string t, .int .u64 r, .int .i64 l])).run Tryd.prog W = .ok (.bool (keyEq s t q r k l)) W := by
  unfold keyEq
  by_cases h1 : (s.toList == t.toList) = true
  · by_cases h2 : (q == r) = true
    · by_cases h3 : (k == l) = true
      · simp [go_sem, h1, h2, h3, Tryd.underlying32, Tryd.underlying9, Tryd.underlying30, Tryd.underlying3]
      · simp [go_sem, h1, h2, h3, Tryd.underlying32, Tryd.underlying9, Tryd.underlying30, Tryd.underlying3]
    · simp [go_sem, h1, h2, Tryd.underlying32, Tryd.underlying9, Tryd.underlying30, Tryd.underlying3]
  · simp [go_sem, h1, Tryd.underlying32, Tryd.underlying9, Tryd.underlying30, Tryd.underlying3]
theorem run_neq_key (s t : ByteArray) (q r k l : Int) (W : World) : (binOp .neq 32 (.agg #[.string s, .int .u64 q, .int .i64 k]) (.agg #[.string t, .int .u64 r, .int .i64 l])).run Tryd.prog W = .ok (.bool (!keyEq s t q r k l)) W := by
  unfold keyEq
  by_cases h1 : (s.toList == t.toList) = true
  · by_cases h2 : (q == r) = true
    · by_cases h3 : (k == l) = true
      · simp [go_sem, h1, h2, h3, Tryd.underlying32, Tryd.underlying9, Tryd.underlying30, Tryd.underlying3]
      · simp [go_sem, h1, h2, h3, Tryd.underlying32, Tryd.underlying9, Tryd.underlying30, Tryd.underlying3]
    · simp [go_sem, h1, h2, Tryd.underlying32, Tryd.underlying9, Tryd.underlying30, Tryd.underlying3]
  · simp [go_sem, h1, Tryd.underlying32, Tryd.underlying9, Tryd.underlying30, Tryd.underlying3]
theorem keyEq_self (s : ByteArray) (q k : Int) : keyEq s s q q k k = true := by simp [keyEq]
end Go.Proofs.YtnggajconglfcaaDoor
