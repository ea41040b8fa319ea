/- Bytes from a place on: what 'b[k:]' gives, told for lists of bytes, wherever it lies. -/
import Derived.Test.YtiflepadjcpjjaaOwn
namespace Go.Proofs.Ytiflepadjcpjjaa
open Go.RowKit
theorem slice_from (b off len cap k : Nat) (hk : k ≤ len) (hc : len ≤ cap) :
    ∃ o', (∀ W : World, (Instr.slice 28 (.slice (some ⟨b, off, none⟩) len cap) (some (.int .i64 (k : Int))) none none).run Try.prog W = .ok (.slice (some ⟨b, o', none⟩) (len - k) (cap - k)) W) ∧
      (∀ (W : World) (bs : List UInt8), BsAt W (some ⟨b, off, none⟩) len cap bs → BsAt W (some ⟨b, o', none⟩) (len - k) (cap - k) (bs.drop k)) := by
  by_cases h0 : cap - k = 0
  · refine ⟨off, fun W => ?_, fun W bs h => ?_⟩
    · simp [Instr.slice, run_underlying Try.underlying28, go_sem]
      rw [if_pos hk, if_pos (by omega)]
    · have hs := h.size
      have hm := h.max
      obtain rfl : k = len := by omega
      rw [Nat.sub_self, List.drop_eq_nil_of_le (by omega)]
      exact BsAt.empty _ _ (by omega)
  · refine ⟨off + k, fun W => ?_, fun W bs h => ?_⟩
    · simp [Instr.slice, run_underlying Try.underlying28, go_sem]
      rw [if_pos hk, if_neg (by omega)]
    · have := h.sub k (len - k) (by omega)
      rwa [List.take_of_length_le (by have := h.size; simp; omega)] at this
end Go.Proofs.Ytiflepadjcpjjaa
