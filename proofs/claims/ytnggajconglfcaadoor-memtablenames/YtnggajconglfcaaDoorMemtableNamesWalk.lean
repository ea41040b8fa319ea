/- The walk of MemtableNames. -/
import Derived.Test.YtnggajconglfcaaDoorM8Own
namespace Go.Proofs.YtnggajconglfcaaDoor
open Go.RowKit
set_option linter.unusedVariables false
set_option maxRecDepth 100000 in
theorem memtableNames_walk (w : World) (hg : Glob w) : Calls Tryd.prog 3 #[] w fun e w' => e = .returned (.bool true) ∧ Below w.heap.size w w' := by
  go_enter Tryd.func3, Tryd.ntmps3
  go_wp2_with fail
  refine (awake_any w hg).mono ?_
  rintro _ w1 ⟨rfl, hb⟩
  have HB : Hid (Below w.heap.size w w1) := hb
  clear hb
  go_wp2
  go_ret
  exact ⟨ret1 rfl, HB.out⟩
end Go.Proofs.YtnggajconglfcaaDoor
