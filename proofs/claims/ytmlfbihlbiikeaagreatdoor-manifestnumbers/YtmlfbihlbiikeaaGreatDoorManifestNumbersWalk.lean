/- The walk of ManifestNumbers. -/
import Derived.Test.YtmlfbihlbiikeaaGreatDoorQa46
namespace Go.Proofs.YtmlfbihlbiikeaaGreatDoor
open Go.RowKit
set_option linter.unusedVariables false
set_option linter.unusedSimpArgs false
set_option maxRecDepth 100000 in
theorem manifestNumbers_walk (w : World) (hg : Gl w) (h8 : 6 ≤ w.heap.size) :
    Calls Tryz.prog 3 #[] w fun e w' => e = .returned (.bool true) ∧ Below w.heap.size w w' := by
  go_enter Tryz.func3, Tryz.ntmps3
  go_wp2_with fail
  refine (awake_yes _ hg h8).mono ?_
  rintro _ w1 ⟨rfl, hb1⟩
  go_wp2
  try go_ret
  exact ⟨ret1 rfl, hb1⟩
end Go.Proofs.YtmlfbihlbiikeaaGreatDoor
