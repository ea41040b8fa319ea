/- The walk of MergeNil. -/
import Derived.Test.YtfijibengmgegaaM16WNil
import Derived.Test.YtfijibengmgegaaM16Mg
namespace Go.Proofs.Ytfijibengmgegaa
open Go.RowKit
theorem mergeNil_walk (s0 : ByteArray) (q0 k0 : Int) (w : World) (_e0 : s0.size ≤ 140737488351232) (x0 : (Lit.int .u64 q0).wf = true) (_y0 : (Lit.int .i64 k0).wf = true) :
    Calls Try.prog 7 #[.agg #[.string s0, .int .u64 q0, .int .i64 k0]] w fun e w' => e = .returned (.bool true) ∧ Below w.heap.size w w' := by
  obtain ⟨n0, rfl⟩ : ∃ n : Nat, q0 = (n : Int) := by
    simp [Lit.wf, IntKind.min, IntKind.max, IntKind.bits, IntKind.signed] at x0
    exact ⟨q0.toNat, by omega⟩
  exact mergeNil_of mg16 nil16 ⟨s0, n0, k0⟩ w
end Go.Proofs.Ytfijibengmgegaa
