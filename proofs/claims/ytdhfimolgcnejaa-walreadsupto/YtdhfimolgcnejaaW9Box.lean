/- Blocks that are known whole. -/
import Derived.Test.YtdhfimolgcnejaaMem
namespace Go.Proofs.Ytdhfimolgcnejaa
open Go.RowKit
/-- Block p holds these cells. -/
def Box (w : World) (p : Nat) (t : TypeId) (arr : Array Value) : Prop := w.heap[p]? = some (.cells arr t (0, 0))
theorem Box.lt {w : World} {p : Nat} {t : TypeId} {arr : Array Value} (h : Box w p t arr) : p < w.heap.size := (Array.getElem?_eq_some_iff.1 h).1
theorem Box.cell {w : World} {p : Nat} {t : TypeId} {arr : Array Value} (h : Box w p t arr) (j : Nat) : w.cell? ⟨p, j, none⟩ = arr[j]? := cell_of_row w p j arr t (0, 0) h
theorem Box.soft {w : World} {p : Nat} {t : TypeId} {arr : Array Value} (h : Box w p t arr) (j : Nat) : w.frozen? ⟨p, j, none⟩ = false := by
  unfold World.frozen?
  rw [show w.heap[p]? = _ from h]
  simp
theorem Box.set {w : World} {p : Nat} {t : TypeId} {arr : Array Value} (h : Box w p t arr) (j : Nat) (v : Value) : Box (w.setCell ⟨p, j, none⟩ v) p t (arr.setIfInBounds j v) := by
  have hlt := h.lt
  unfold Box at h ⊢
  have e := Array.getElem?_eq_some_iff.1 h
  obtain ⟨_, e⟩ := e
  simp [World.setCell, Array.getElem?_modify, h]
theorem Box.eq {w : World} {p : Nat} {t : TypeId} {arr arr' : Array Value} (h : Box w p t arr) (e : arr = arr') : Box w p t arr' := e ▸ h
theorem Box.kept {w w' : World} {p : Nat} {t : TypeId} {arr : Array Value} (h : Box w p t arr) (hk : w'.heap[p]? = w.heap[p]?) : Box w' p t arr := hk.trans h
theorem Box.new (w : World) (t : TypeId) (arr : Array Value) : Box (w.alloc (.cells arr t)) w.heap.size t arr := heap_alloc_new w _
theorem Box.alloc {w : World} {p : Nat} {t : TypeId} {arr : Array Value} (h : Box w p t arr) (o : Obj) : Box (w.alloc o) p t arr := h.kept (Below.heap_alloc w o p h.lt)
theorem Box.other {w : World} {p q : Nat} {t : TypeId} {arr : Array Value} (h : Box w p t arr) (hq : p ≠ q) (j : Nat) (v : Value) : Box (w.setCell ⟨q, j, none⟩ v) p t arr := h.kept (Below.heap_setCell _ _ _ _ hq)
end Go.Proofs.Ytdhfimolgcnejaa
