/- Structs of three fields in memory: what is known of their cells in a later world. -/
import Derived.Test.YtiflepadjcpjjaaMem
namespace Go.Proofs.Ytiflepadjcpjjaa
open Go.RowKit

structure Rec3 (w : World) (n : Nat) (x y z : Value) : Prop where
  c0 : w.cell? ⟨n, 0, none⟩ = some x
  c1 : w.cell? ⟨n, 1, none⟩ = some y
  c2 : w.cell? ⟨n, 2, none⟩ = some z
  f0 : w.frozen? ⟨n, 0, none⟩ = false
  f1 : w.frozen? ⟨n, 1, none⟩ = false
  f2 : w.frozen? ⟨n, 2, none⟩ = false
  lt : n < w.heap.size

theorem Rec3.new (w : World) (n : Nat) (hn : n = w.heap.size) (x y z : Value) (t : TypeId) : Rec3 (w.alloc (.cells #[x, y, z] t)) n x y z := by
  subst hn
  refine ⟨?_, ?_, ?_, ?_, ?_, ?_, by simp⟩ <;> simp
theorem Rec3.below {B n : Nat} {w w' : World} {x y z : Value} (h : Rec3 w n x y z) (hB : w.heap.size ≤ B) (hb : Below B w w') : Rec3 w' n x y z := by
  have hn : n < B := Nat.lt_of_lt_of_le h.lt hB
  refine ⟨?_, ?_, ?_, ?_, ?_, ?_, Nat.lt_of_lt_of_le h.lt hb.size⟩
  · rw [hb.cell hn]; exact h.c0
  · rw [hb.cell hn]; exact h.c1
  · rw [hb.cell hn]; exact h.c2
  · rw [hb.frozen hn]; exact h.f0
  · rw [hb.frozen hn]; exact h.f1
  · rw [hb.frozen hn]; exact h.f2
theorem Rec3.alloc {n : Nat} {w : World} {x y z : Value} (h : Rec3 w n x y z) (o : Obj) : Rec3 (w.alloc o) n x y z := h.below (Nat.le_refl _) ((Below.refl _ _).alloc (Nat.le_refl _) _)
end Go.Proofs.Ytiflepadjcpjjaa
