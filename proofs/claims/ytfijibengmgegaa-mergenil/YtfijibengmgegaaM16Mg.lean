/- Merge's own iterator keeps what is asked of it. -/
import Derived.Test.YtfijibengmgegaaM16MgV
import Derived.Test.YtfijibengmgegaaM16MgE
import Derived.Test.YtfijibengmgegaaM16MgG
namespace Go.Proofs.Ytfijibengmgegaa
open Go.RowKit
set_option linter.unusedVariables false
set_option linter.unusedSimpArgs false
set_option maxRecDepth 100000 in
set_option maxHeartbeats 1000000 in
theorem nil_first (w : World) : Calls Try.prog 17 #[nilIt] w fun e w' => e = .returned (.tuple #[]) ∧ Below w.heap.size w w' := by
  go_enter Try.func17, Try.ntmps17
  go_wp2
  go_end0
  exact ⟨rfl, (Below.refl _ _)⟩
set_option maxRecDepth 100000 in
set_option maxHeartbeats 1000000 in
theorem nil_last (w : World) : Calls Try.prog 21 #[nilIt] w fun e w' => e = .returned (.tuple #[]) ∧ Below w.heap.size w w' := by
  go_enter Try.func21, Try.ntmps21
  go_wp2
  go_end0
  exact ⟨rfl, (Below.refl _ _)⟩
set_option maxRecDepth 100000 in
set_option maxHeartbeats 1000000 in
theorem nil_next (w : World) : Calls Try.prog 19 #[nilIt] w fun e w' => e = .returned (.tuple #[]) ∧ Below w.heap.size w w' := by
  go_enter Try.func19, Try.ntmps19
  go_wp2
  go_returns
  exact ⟨rfl, (Below.refl _ _)⟩
set_option maxRecDepth 100000 in
set_option maxHeartbeats 1000000 in
theorem nil_prev (w : World) : Calls Try.prog 18 #[nilIt] w fun e w' => e = .returned (.tuple #[]) ∧ Below w.heap.size w w' := by
  go_enter Try.func18, Try.ntmps18
  go_wp2
  go_returns
  exact ⟨rfl, (Below.refl _ _)⟩
set_option maxRecDepth 100000 in
set_option maxHeartbeats 1000000 in
theorem nil_seek (k : IK) (w : World) : Calls Try.prog 22 #[nilIt, keyV k] w fun e w' => e = .returned (.tuple #[]) ∧ Below w.heap.size w w' := by
  go_enter Try.func22, Try.ntmps22
  go_wp2
  go_end0
  exact ⟨rfl, ((Below.refl _ _).alloc (Nat.le_refl _) _)⟩
set_option maxRecDepth 100000 in
set_option maxHeartbeats 1000000 in
theorem nil_at (w : World) : Calls Try.prog 13 #[nilIt] w fun e w' => e = .returned (.tuple #[kvV kvZ, .bool false]) ∧ Below w.heap.size w w' := by
  go_enter Try.func13, Try.ntmps13
  go_wp2
  exact bodyPost_ret (v := .tuple #[.agg kvz4, .bool false]) (by simp [results, Try.results13, go_sem]) rfl ⟨rfl, (Below.refl _ _).alloc (Nat.le_refl _) _⟩
theorem nil16 : MgNil := ⟨nil_first, nil_last, nil_seek, nil_next, nil_prev, nil_at⟩
theorem mg16 : MgOk Mg16 where
  kept := mg_kept
  lt := mg_lt
  fit := mg_fit
  new := new_16
  first := first_16
  last := last_16
  seek := seek_16
  next := next_16
  prev := prev_16
  at' := at_16
end Go.Proofs.Ytfijibengmgegaa
