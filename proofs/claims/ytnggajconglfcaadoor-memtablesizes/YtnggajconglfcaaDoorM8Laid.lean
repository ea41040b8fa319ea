/- The package variables that the statements list: what they give, and a world that holds them. -/
import Derived.Test.YtnggajconglfcaaDoorRows
import Derived.Test.YtnggajconglfcaaDoorM8Text
import Derived.Deep.DeepHandedRow
import Derived.Deep.DeepLaidRun
import Derived.Lib.LaidTab
import Derived.LaidSub
import Derived.Clock
import Derived.MakeChecks
import Derived.Shelf.Vars
namespace Go.Proofs.YtnggajconglfcaaDoor
open Go.RowKit
set_option linter.unusedVariables false
def theLaid : List (String × DataW Unit) := Rows.memtableNamesRow.laid
theorem gTab : Tryd.prog.globalNamed "math/bits.deBruijn64tab" = some 1 := by kernel_rfl
theorem gTabType : (Tryd.prog.globals[1]?).map (·.type) = some 134 := by kernel_rfl
theorem cellsTab : Tryd.prog.cellsOf 134 = 64 := by kernel_rfl
theorem cellsU8 : Tryd.prog.cellsOf 5 = 1 := by kernel_rfl
theorem tab_laid {W : World} (h : laidMetH Tryd.prog theLaid W) : Lib.TabIs Tryd.prog W "math/bits.deBruijn64tab" .u8 (Lib.deBruijn64tab.map Int.ofNat) := by
  have h1 := h.filter (fun x => x.1 == "math/bits.deBruijn64tab")
  have e : theLaid.filter (fun x => x.1 == "math/bits.deBruijn64tab") = [("math/bits.deBruijn64tab", Lib.tabData .u8 (Lib.deBruijn64tab.map Int.ofNat))] := by rfl
  rw [e] at h1
  exact Lib.tabIs_of_head (rest := []) gTab gTabType Tryd.underlying134 Tryd.underlying5 cellsU8 cellsTab h1
theorem glob_of {W : World} (h : laidMetH Tryd.prog theLaid W) (hs : W.ShapedOpen Tryd.prog) : Glob W := by
  refine ⟨?_, fun j hj => ?_⟩
  · exact cell_of_shapedOpen_int (g := 2) (t := 3) (zero := #[.int .i64 0]) hs (of_decide_eq_true (by kernel_rfl)) (by kernel_rfl) rfl (by kernel_rfl) (by kernel_rfl) Tryd.underlying3
  · have := (tab_laid h).cell gTab j (by simpa using hj)
    rw [show tzL_ren.g 1 = 1 from rfl, this]
    simp [List.getD, hj]
/-- A world that holds them. -/
def u8s (l : List Nat) : Array Value := (l.map fun (n : Nat) => Value.int .u8 (n : Int)).toArray
def rangesOf : List Nat := [128, 191, 160, 191, 128, 159, 144, 191, 128, 143, 0, 0, 0, 0, 0, 0, 0, 0, 0, 0, 0, 0, 0, 0, 0, 0, 0, 0, 0, 0, 0, 0]
def laidHeap (h : Array Obj) : Array Obj :=
  (((h.setIfInBounds 0 (.cells (u8s Lib.deBruijn32tab) 133)).setIfInBounds 1 (.cells (u8s Lib.deBruijn64tab) 134)).setIfInBounds 3 (.cells (u8s Pinned.utf8FirstZ) 143)).setIfInBounds 4 (.cells (u8s rangesOf) 146)
set_option maxRecDepth 100000 in
theorem laid_met (os : Os) : laidMet Tryd.prog theLaid (({ World.holding Tryd.prog os ⟨#[], #[], []⟩ with heap := laidHeap (World.holding Tryd.prog os ⟨#[], #[], []⟩).heap } : World).forCall (fun _ _ => 0) ⟨#[], #[], []⟩).memory :=
  laidMet_of_run3 8 (by kernel_rfl) (by kernel_rfl) (by kernel_rfl)
end Go.Proofs.YtnggajconglfcaaDoor
