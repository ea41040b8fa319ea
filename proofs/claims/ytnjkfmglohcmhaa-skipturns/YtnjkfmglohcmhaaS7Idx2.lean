/- An element's address, of a slice whose own is a letter. -/
import Derived.Test.YtnjkfmglohcmhaaS7Idx
import Derived.Handy
namespace Go.Proofs.Ytnjkfmglohcmhaa
open Go.RowKit
theorem size_bool (w : World) : (sizeOf (Try.prog.elem 32)).run Try.prog w = .ok 1 w := by kernel_rfl
theorem idx_bool (w : World) {a : Option Addr} {b off n c i : Nat} (ha : a = some ⟨b, off, none⟩) (hi : i < n) : (Instr.indexAt 32 (.slice a n c) (.int .i64 (i : Int))).run Try.prog w = .ok (.pointer (some ⟨b, off + i, none⟩)) w := by
  subst ha
  have h1 : (0 : Int) ≤ (i : Int) ∧ (i : Int) < (n : Int) := by omega
  rw [run_indexAt_slice (P := Try.prog) (h := Try.underlying32), if_pos h1, size_bool]
  simp [Result.andThen, Addr.add_lit]
theorem size_row (w : World) : (sizeOf (Try.prog.elem 33)).run Try.prog w = .ok 1 w := by kernel_rfl
theorem idx_row (w : World) {a : Option Addr} {b off n c i : Nat} (ha : a = some ⟨b, off, none⟩) (hi : i < n) : (Instr.indexAt 33 (.slice a n c) (.int .i64 (i : Int))).run Try.prog w = .ok (.pointer (some ⟨b, off + i, none⟩)) w := by
  subst ha
  have h1 : (0 : Int) ≤ (i : Int) ∧ (i : Int) < (n : Int) := by omega
  rw [run_indexAt_slice (P := Try.prog) (h := Try.underlying33), if_pos h1, size_row]
  simp [Result.andThen, Addr.add_lit]
end Go.Proofs.Ytnjkfmglohcmhaa
