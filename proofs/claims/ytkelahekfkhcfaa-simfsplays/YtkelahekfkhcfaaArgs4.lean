/- Lists of ints as arguments: what a reading of one gives. -/
import Derived.Test.YtkelahekfkhcfaaArgs
import Derived.Test.YtkelahekfkhcfaaFsFace
namespace Go.Proofs.Ytkelahekfkhcfaa
open Go.RowKit
theorem IsAt.nil (w : World) : IsAt w none 0 0 [] := ⟨rfl, Nat.le_refl _, Nat.zero_le _, fun _ => rfl, fun _ h => absurd h (Nat.not_lt_zero _), fun h => absurd h (Nat.lt_irrefl _)⟩
theorem IsAt.ofInts {w : World} {x : Addr} {len cap : Nat} {zs : List Int} (hl : len ≤ cap) (hm : cap ≤ maxLen) (hz : zs.length = cap)
    (hcell : ∀ i, i < zs.length → w.cell? (x.add i) = some (.int .i64 (zs.getD i 0))) (hwz : ∀ n ∈ zs, (Lit.int .i64 n).wf = true) :
    IsAt w (some x) len cap (zs.take len) := by
  have hb : ∀ i, i < zs.length → -9223372036854775808 ≤ zs.getD i 0 ∧ zs.getD i 0 ≤ 9223372036854775807 := by
    intro i hi
    have hmem : zs.getD i 0 ∈ zs := by simp [List.getD, hi]
    have := hwz _ hmem
    simp [Lit.wf, IntKind.min, IntKind.max, IntKind.bits, IntKind.signed] at this
    have e : zs.getD i 0 = zs[i]?.getD 0 := by simp
    omega
  have e : ∀ j, j < len → (zs.take len).getD j 0 = zs.getD j 0 := fun j hj => by simp [List.getD, hj]
  refine ⟨by simp; omega, hl, hm, by simp, fun j hj => by rw [e j hj]; exact hb j (by omega), fun hp => ?_⟩
  obtain ⟨b, off, rfl, hc⟩ := ints_at hcell (by omega)
  refine ⟨b, off, rfl, fun j hj => ?_⟩
  rw [hc j (by omega), e j hj]
end Go.Proofs.Ytkelahekfkhcfaa
