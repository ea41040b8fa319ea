/- staddlelaw04.SimfsNames returns true. -/
import Derived.Test.YtfabgiapekfgcaaAwake4
namespace Go.Proofs.Ytfabgiapekfgcaa
open Go.RowKit
set_option maxRecDepth 100000 in
set_option maxHeartbeats 400000 in
theorem simfsNames_of {J : Face} (h : FsOk J) (w : World) : Calls Try.prog 3 #[] w fun e w' => e = .returned (.bool true) ∧ Below w.heap.size w w' := by
  go_enter Try.func3, Try.ntmps3
  go_wp2_with fail
  refine (awake_any h _).mono ?_
  rintro e w1 ⟨rfl, hb⟩
  go_wp2_with fail
  go_ret
  exact ⟨rfl, hb⟩
end Go.Proofs.Ytfabgiapekfgcaa
