/- SkipNames: the walk. -/
import Derived.Test.YtnjkfmglohcmhaaS7Awake
namespace Go.Proofs.Ytnjkfmglohcmhaa
open Go.RowKit
set_option maxRecDepth 100000 in
theorem skipNames_walk (w : World) : Calls Try.prog 3 #[] w fun e w' => e = .returned (.bool true) ∧ Below w.heap.size w w' := by
  go_enter Try.func3, Try.ntmps3
  go_wp2_with fail
  refine (awake_any _).mono ?_
  rintro _ w1 ⟨rfl, hb⟩
  go_wp2
  go_returns
  exact ⟨rfl, hb⟩
end Go.Proofs.Ytnjkfmglohcmhaa
