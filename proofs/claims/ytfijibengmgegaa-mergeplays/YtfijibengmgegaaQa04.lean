/- The contract of codec.PutFixed: what it lays behind bytes, in new memory. -/
import Derived.Test.YtfijibengmgegaaQa03
import Derived.Test.YtfijibengmgegaaQa02
import Derived.Test.YtfijibengmgegaaOwn
namespace Go.Proofs.Ytfijibengmgegaa
open Go.RowKit

end Go.Proofs.Ytfijibengmgegaa
/- A string as bytes: a new row of its letters. -/
namespace Go.Proofs.Ytfijibengmgegaa
open Go.RowKit

/-- A string as bytes: a new row that reads as its letters. -/
theorem BsAt.ofStr (w : World) (s : ByteArray) (cap : Nat) (fz : Nat × Nat) (hs : s.size ≤ cap) (hc : cap ≤ maxLen) : BsAt (w.drew.alloc (.cells (bytesRow s cap) 5 fz)) (some ⟨w.heap.size, 0, none⟩) s.size cap s.data.toList := by
  have hl : s.data.toList.length = s.size := by rw [Array.length_toList]; rfl
  refine ⟨hl, hs, hc, by simp, fun _ => ⟨w.heap.size, 0, rfl, fun j hj => ?_⟩⟩
  rw [cell_of_row (w.drew.alloc (.cells (bytesRow s cap) 5 fz)) w.heap.size (0 + j) (bytesRow s cap) 5 fz (heap_alloc_new w.drew _)]
  have hj' : j < s.data.size := hj
  simp [bytesRow, List.getD, Array.getElem?_append, hj]
end Go.Proofs.Ytfijibengmgegaa
/- The contract of ikey.Encode: the bytes of a key, as the plain function keyEnc tells them. -/
namespace Go.Proofs.Ytfijibengmgegaa
open Go.RowKit

theorem key_or (q : Nat) (k : Int) (h1 : q ≤ 72057594037927935) (h2 : k = 0 ∨ k = 1) : bits .or .u64 ((q : Int) * 256) (IntKind.u64.wrap k) = ((q * 256 + k.toNat : Nat) : Int) := by
  obtain ⟨j, rfl, hj⟩ : ∃ j : Nat, k = (j : Int) ∧ j ≤ 1 := ⟨k.toNat, by omega, by omega⟩
  rw [show IntKind.u64.wrap (j : Int) = (j : Int) by simp [IntKind.wrap, IntKind.bits, IntKind.signed]; omega, show (q : Int) * 256 = ((q * 256 : Nat) : Int) by omega, nbits_or64 _ _ (by omega) (by omega)]
  rw [show q * 256 = q <<< 8 by rw [Nat.shiftLeft_eq], ← Nat.shiftLeft_add_eq_or_of_lt (show j < 2 ^ 8 by omega)]
  rfl

end Go.Proofs.Ytfijibengmgegaa
/- Bytes from a place on: what 'b[k:]' gives, told for lists of bytes, wherever it lies. -/
namespace Go.Proofs.Ytfijibengmgegaa
open Go.RowKit
end Go.Proofs.Ytfijibengmgegaa
/- What 'b[k:]' gives, for whatever slice of bytes, nil too. -/
namespace Go.Proofs.Ytfijibengmgegaa
open Go.RowKit
end Go.Proofs.Ytfijibengmgegaa
