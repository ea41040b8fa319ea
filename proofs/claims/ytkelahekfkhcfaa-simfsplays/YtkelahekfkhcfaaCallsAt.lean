/- Lists of calls in memory. -/
import Derived.Test.YtkelahekfkhcfaaRfFace
namespace Go.Proofs.Ytkelahekfkhcfaa
open Go.RowKit
def call0 : CallV := ⟨0, ByteArray.empty, ByteArray.empty, none, 0, 0, [], 0, none, 0, 0, []⟩
structure CsAt (w : World) (a : Option Addr) (len cap : Nat) (l : List CallV) : Prop where
  size : l.length = len
  le : len ≤ cap
  max : cap ≤ maxLen
  bare : a = none → cap = 0
  ok : ∀ j, j < len → (l.getD j call0).Ok w ∧ (l.getD j call0).bc ≤ 140737488351232
  here : 0 < len → ∃ b off, a = some ⟨b, off, none⟩ ∧ ∀ j, j < len → ∀ m v, (l.getD j call0).cells[m]? = some v → w.cell? ⟨b, off + j * 6 + m, none⟩ = some v
theorem CsAt.below {B : Nat} {w w' : World} {a : Option Addr} {len cap : Nat} {l : List CallV} (h : CsAt w a len cap l) (hB : w.heap.size ≤ B) (hb : Below B w w') : CsAt w' a len cap l :=
  ⟨h.size, h.le, h.max, h.bare, fun j hj => ⟨(h.ok j hj).1.below hB hb, (h.ok j hj).2⟩, fun hp => by
    obtain ⟨b, off, ha, hc⟩ := h.here hp
    refine ⟨b, off, ha, fun j hj m v hv => ?_⟩
    have := hc j hj m v hv
    rw [hb.cell (Nat.lt_of_lt_of_le (World.block_lt_of_cell? w _ this) hB)]
    exact this⟩
theorem CsAt.upTo {w : World} {a : Option Addr} {len cap : Nat} {l : List CallV} (h : CsAt w a len cap l) (k : Nat) (hk : k ≤ len) : CsAt w a k cap (l.take k) := by
  have hs := h.size
  have e : ∀ j, j < k → (l.take k).getD j call0 = l.getD j call0 := fun j hj => by simp [List.getD, hj]
  refine ⟨by simp; omega, Nat.le_trans hk h.le, h.max, h.bare, fun j hj => by rw [e j hj]; exact h.ok j (by omega), fun hp => ?_⟩
  obtain ⟨b, off, ha, hc⟩ := h.here (by omega)
  refine ⟨b, off, ha, fun j hj m v hv => ?_⟩
  rw [e j hj] at hv
  exact hc j (by omega) m v hv
end Go.Proofs.Ytkelahekfkhcfaa
