/- The cells of a file system's own block. -/
import Derived.Test.YtkelahekfkhcfaaNmMap
namespace Go.Proofs.Ytkelahekfkhcfaa
open Go.RowKit
structure FsC where
  q : Int
  u : Int
  o : Int
  fs : Bool
  fn : Int
  ss : Bool
  sn : Int
  mn : Option Nat
  ml : Option Nat
  sa : Option Addr
  sl : Nat
  sc : Nat
def FsC.arr (c : FsC) : Array Value := #[.int .i64 c.q, .int .i64 c.u, .int .i64 c.o, .bool c.fs, .int .i64 c.fn, .bool c.ss, .int .i64 c.sn, .map c.mn, .map c.ml, .slice c.sa c.sl c.sc]
/-- Block p holds these cells. -/
def Box (w : World) (p : Nat) (t : TypeId) (arr : Array Value) : Prop := w.heap[p]? = some (.cells arr t (0, 0))
def FsB (w : World) (p : Nat) (c : FsC) : Prop := Box w p 64 c.arr
theorem Box.lt {w : World} {p : Nat} {t : TypeId} {arr : Array Value} (h : Box w p t arr) : p < w.heap.size := (Array.getElem?_eq_some_iff.1 h).1
theorem Box.cell {w : World} {p : Nat} {t : TypeId} {arr : Array Value} (h : Box w p t arr) (j : Nat) : w.cell? ⟨p, j, none⟩ = arr[j]? := cell_of_row w p j arr t (0, 0) h
theorem Box.soft {w : World} {p : Nat} {t : TypeId} {arr : Array Value} (h : Box w p t arr) (j : Nat) : w.frozen? ⟨p, j, none⟩ = false := by
  unfold World.frozen?
  rw [show w.heap[p]? = _ from h]
  simp
theorem Box.set {w : World} {p : Nat} {t : TypeId} {arr : Array Value} (h : Box w p t arr) (j : Nat) (v : Value) : Box (w.setCell ⟨p, j, none⟩ v) p t (arr.setIfInBounds j v) := by
  have hlt := h.lt
  unfold Box at h ⊢
  have e := Array.getElem?_eq_some_iff.1 h
  obtain ⟨_, e⟩ := e
  simp [World.setCell, Array.getElem?_modify, h]
theorem Box.eq {w : World} {p : Nat} {t : TypeId} {arr arr' : Array Value} (h : Box w p t arr) (e : arr = arr') : Box w p t arr' := e ▸ h
theorem Box.kept {w w' : World} {p : Nat} {t : TypeId} {arr : Array Value} (h : Box w p t arr) (hk : w'.heap[p]? = w.heap[p]?) : Box w' p t arr := hk.trans h
theorem Box.new (w : World) (t : TypeId) (arr : Array Value) : Box (w.alloc (.cells arr t)) w.heap.size t arr := heap_alloc_new w _
theorem Box.alloc {w : World} {p : Nat} {t : TypeId} {arr : Array Value} (h : Box w p t arr) (o : Obj) : Box (w.alloc o) p t arr := h.kept (Below.heap_alloc w o p h.lt)
theorem grown_cell (w : World) (p j : Nat) (v : Value) : w.grownBy (w.setCell ⟨p, j, none⟩ v) (some p) :=
  ⟨rfl, rfl, rfl, by simp, fun k _ hk => Below.heap_setCell _ _ _ k (fun e => hk (by rw [e]))⟩
theorem grown_alloc {w w' : World} {row : Option Nat} (h : w.grownBy w' row) (o : Obj) : w.grownBy (w'.alloc o) row :=
  ⟨h.os, h.tape, h.output, by have := h.size; simp; omega, fun k hk hr => (Below.heap_alloc _ _ k (Nat.lt_of_lt_of_le hk h.size)).trans (h.block k hk hr)⟩
theorem grown_set {w w' : World} {p : Nat} (h : w.grownBy w' (some p)) (j : Nat) (v : Value) : w.grownBy (w'.setCell ⟨p, j, none⟩ v) (some p) :=
  ⟨h.os, h.tape, h.output, by have := h.size; simpa using this, fun k hk hr => (Below.heap_setCell _ _ _ k (fun e => hr (by rw [e]))).trans (h.block k hk hr)⟩
theorem grown_drew {w w' : World} {row : Option Nat} (h : w.grownBy w' row) : w.grownBy w'.drew row := ⟨h.os, h.tape, h.output, h.size, h.block⟩
theorem grown_new {w w' : World} {p : Nat} {row : Option Nat} (h : w.grownBy w' row) (hp : w.heap.size ≤ p) (j : Nat) (v : Value) : w.grownBy (w'.setCell ⟨p, j, none⟩ v) row :=
  ⟨h.os, h.tape, h.output, by have := h.size; simpa using this, fun k hk hr => (Below.heap_setCell _ _ _ k (by simp only; omega)).trans (h.block k hk hr)⟩
theorem FsB.cells {w : World} {p : Nat} {c : FsC} (h : FsB w p c) : w.cell? ⟨p, 0, none⟩ = some (.int .i64 c.q) ∧ w.cell? ⟨p, 1, none⟩ = some (.int .i64 c.u) ∧ w.cell? ⟨p, 2, none⟩ = some (.int .i64 c.o) ∧ w.cell? ⟨p, 3, none⟩ = some (.bool c.fs) ∧ w.cell? ⟨p, 4, none⟩ = some (.int .i64 c.fn) ∧ w.cell? ⟨p, 5, none⟩ = some (.bool c.ss) ∧ w.cell? ⟨p, 6, none⟩ = some (.int .i64 c.sn) ∧ w.cell? ⟨p, 7, none⟩ = some (.map c.mn) ∧ w.cell? ⟨p, 8, none⟩ = some (.map c.ml) ∧ w.cell? ⟨p, 9, none⟩ = some (.slice c.sa c.sl c.sc) :=
  ⟨Box.cell h 0, Box.cell h 1, Box.cell h 2, Box.cell h 3, Box.cell h 4, Box.cell h 5, Box.cell h 6, Box.cell h 7, Box.cell h 8, Box.cell h 9⟩
end Go.Proofs.Ytkelahekfkhcfaa
