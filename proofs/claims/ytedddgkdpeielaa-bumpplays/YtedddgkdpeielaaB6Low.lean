/- A byte of the call's own is written; arenas below it stay. -/
import Derived.Test.YtedddgkdpeielaaB6Joint
namespace Go.Proofs.Ytedddgkdpeielaa
open Go.RowKit
theorem OwnB.put {w : World} {B g len cap : Nat} {bs : List UInt8} (h : OwnB w B (some ⟨g, 0, none⟩) len cap bs) (j : Nat) (x : UInt8) : OwnB (w.setCell ⟨g, j, none⟩ (.int .u8 (x.toNat : Int))) B (some ⟨g, 0, none⟩) len cap (bs.set j x) := by
  have hs := h.size
  refine ⟨by rw [List.length_set]; exact hs, ?_⟩
  have := h.row.stored j (.int .u8 (x.toNat : Int))
  have e : cellsB (bs.set j x) = (cellsB bs).set j (.int .u8 (x.toNat : Int)) := by simp [cellsB, List.map_set]
  rw [e]
  exact this.1
theorem ArAt.low {w w' : World} {p B : Nat} {A : PA} (h : ArAt w p A) (hp : p < B) (hb : Below B w w') : ArAt w' p A := h.kept (hb.block p hp)
theorem Both.low {w0 w w' : World} {p q B : Nat} {A : PA} (h : Both w0 w p q A) (hB : w.heap.size ≤ B) (hb : Below B w w') : Both w0 w' p q A := h.below (hb.mono hB)
theorem OwnB.keptB {w w' : World} {B : Nat} {a : Option Addr} {n c : Nat} {l : List UInt8} (h : OwnB w B a n c l) (hk : ∀ k, B ≤ k ∧ k < w.heap.size → w'.heap[k]? = w.heap[k]?) : OwnB w' B a n c l := ⟨h.size, row_same h.row (fun b e => hk b ⟨(h.row.lt b e).1, tag_lt (row_tag h.row e)⟩)⟩
end Go.Proofs.Ytedddgkdpeielaa
