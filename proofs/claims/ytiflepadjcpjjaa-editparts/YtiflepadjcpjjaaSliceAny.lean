/- What 'b[k:]' gives, for whatever slice of bytes, nil too. -/
import Derived.Test.YtiflepadjcpjjaaSliceFrom
namespace Go.Proofs.Ytiflepadjcpjjaa
open Go.RowKit
theorem slice_any {w0 : World} {bs0 : List UInt8} {a : Option Addr} {len cap : Nat} (h : BsAt w0 a len cap bs0) (k : Nat) (hk : k ≤ len) :
    ∃ a', (∀ W : World, (Instr.slice 28 (.slice a len cap) (some (.int .i64 (k : Int))) none none).run Try.prog W = .ok (.slice a' (len - k) (cap - k)) W) ∧
      (∀ (W : World) (bs : List UInt8), BsAt W a len cap bs → BsAt W a' (len - k) (cap - k) (bs.drop k)) := by
  have hle := h.le
  have hmx := h.max
  by_cases h0 : len = 0
  · subst h0
    obtain rfl : k = 0 := by omega
    cases a with
    | none =>
      obtain rfl := h.bare rfl
      refine ⟨none, fun W => ?_, fun W bs hb => hb⟩
      simp [Instr.slice, run_underlying Try.underlying28, go_sem]
    | some ad =>
      obtain ⟨b, off, s⟩ := ad
      by_cases hc : cap = 0
      · subst hc
        refine ⟨some ⟨b, off, s⟩, fun W => ?_, fun W bs hb => hb⟩
        simp [Instr.slice, run_underlying Try.underlying28, go_sem]
      · refine ⟨some ((⟨b, off, s⟩ : Addr).add 0), fun W => ?_, fun W bs hb => ?_⟩
        · simp [Instr.slice, run_underlying Try.underlying28, go_sem]
          try rw [if_neg hc]
        · have := hb.size
          rw [List.eq_nil_of_length_eq_zero this]
          exact BsAt.empty _ _ (by omega)
  · obtain ⟨b, off, rfl, _⟩ := h.here (by omega)
    obtain ⟨o', h1, h2⟩ := slice_from b off len cap k hk hle
    exact ⟨some ⟨b, o', none⟩, h1, h2⟩
end Go.Proofs.Ytiflepadjcpjjaa
