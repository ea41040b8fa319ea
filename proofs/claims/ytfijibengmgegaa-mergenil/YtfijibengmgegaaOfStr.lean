/- A string as bytes: a new row of its letters. -/
import Derived.Test.YtfijibengmgegaaOwn
namespace Go.Proofs.Ytfijibengmgegaa
open Go.RowKit

/-- A string as bytes: a new row that reads as its letters. -/
theorem BsAt.ofStr (w : World) (s : ByteArray) (cap : Nat) (fz : Nat × Nat) (hs : s.size ≤ cap) (hc : cap ≤ maxLen) : BsAt (w.drew.alloc (.cells (bytesRow s cap) 5 fz)) (some ⟨w.heap.size, 0, none⟩) s.size cap s.data.toList := by
  have hl : s.data.toList.length = s.size := by rw [Array.length_toList]; rfl
  refine ⟨hl, hs, hc, by simp, fun _ => ⟨w.heap.size, 0, rfl, fun j hj => ?_⟩⟩
  rw [cell_of_row (w.drew.alloc (.cells (bytesRow s cap) 5 fz)) w.heap.size (0 + j) (bytesRow s cap) 5 fz (heap_alloc_new w.drew _)]
  have hj' : j < s.data.size := hj
  simp [bytesRow, List.getD, Array.getElem?_append, hj]
end Go.Proofs.Ytfijibengmgegaa
