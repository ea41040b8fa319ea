/- An element's address, of a slice whose own is a letter. -/
import Derived.Test.YtnjkfmglohcmhaaS7Args
import Derived.Handy
namespace Go.Proofs.Ytnjkfmglohcmhaa
open Go.RowKit
theorem size_put (w : World) : (sizeOf (Try.prog.elem 23)).run Try.prog w = .ok 2 w := by kernel_rfl
theorem idx_put (w : World) {a : Option Addr} {b off n c i : Nat} (ha : a = some ⟨b, off, none⟩) (hi : i < n) : (Instr.indexAt 23 (.slice a n c) (.int .i64 (i : Int))).run Try.prog w = .ok (.pointer (some ⟨b, off + i * 2, none⟩)) w := by
  subst ha
  have h1 : (0 : Int) ≤ (i : Int) ∧ (i : Int) < (n : Int) := by omega
  rw [run_indexAt_slice (P := Try.prog) (h := Try.underlying23), if_pos h1, size_put]
  simp [Result.andThen, Addr.add_lit]
theorem size_int (w : World) : (sizeOf (Try.prog.elem 24)).run Try.prog w = .ok 1 w := by kernel_rfl
theorem idx_int (w : World) {a : Option Addr} {b off n c i : Nat} (ha : a = some ⟨b, off, none⟩) (hi : i < n) : (Instr.indexAt 24 (.slice a n c) (.int .i64 (i : Int))).run Try.prog w = .ok (.pointer (some ⟨b, off + i, none⟩)) w := by
  subst ha
  have h1 : (0 : Int) ≤ (i : Int) ∧ (i : Int) < (n : Int) := by omega
  rw [run_indexAt_slice (P := Try.prog) (h := Try.underlying24), if_pos h1, size_int]
  simp [Result.andThen, Addr.add_lit]
theorem size_str (w : World) : (sizeOf (Try.prog.elem 29)).run Try.prog w = .ok 1 w := by kernel_rfl
theorem idx_str (w : World) {a : Option Addr} {b off n c i : Nat} (ha : a = some ⟨b, off, none⟩) (hi : i < n) : (Instr.indexAt 29 (.slice a n c) (.int .i64 (i : Int))).run Try.prog w = .ok (.pointer (some ⟨b, off + i, none⟩)) w := by
  subst ha
  have h1 : (0 : Int) ≤ (i : Int) ∧ (i : Int) < (n : Int) := by omega
  rw [run_indexAt_slice (P := Try.prog) (h := Try.underlying29), if_pos h1, size_str]
  simp [Result.andThen, Addr.add_lit]
end Go.Proofs.Ytnjkfmglohcmhaa
