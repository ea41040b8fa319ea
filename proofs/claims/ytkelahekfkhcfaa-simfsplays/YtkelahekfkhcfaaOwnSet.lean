/- A byte of the call's own is written; and file systems that are none of it stay. -/
import Derived.Test.YtkelahekfkhcfaaRfFace
namespace Go.Proofs.Ytkelahekfkhcfaa
open Go.RowKit
theorem OwnB.put {w : World} {B g len cap : Nat} {bs : List UInt8} (h : OwnB w B (some ⟨g, 0, none⟩) len cap bs) (j : Nat) (x : UInt8) : OwnB (w.setCell ⟨g, j, none⟩ (.int .u8 (x.toNat : Int))) B (some ⟨g, 0, none⟩) len cap (bs.set j x) := by
  have hs := h.size
  refine ⟨by rw [List.length_set]; exact hs, ?_⟩
  have := h.row.stored j (.int .u8 (x.toNat : Int))
  have e : cellsB (bs.set j x) = (cellsB bs).set j (.int .u8 (x.toNat : Int)) := by simp [cellsB, List.map_set]
  rw [e]
  exact this.1
theorem Chg.cell (R : Nat → Prop) (w : World) {g : Nat} (j : Nat) (v : Value) (hg : R g) : Chg R w (w.setCell ⟨g, j, none⟩ v) :=
  ⟨rfl, rfl, rfl, by simp, fun k _ hk => Below.heap_setCell _ _ _ k (fun e => hk (by rw [e]; exact hg))⟩
theorem Kp.cell {R : Nat → Prop} {w0 w : World} (h : Kp R w0 w) {g : Nat} (j : Nat) (v : Value) (hg : w0.heap.size ≤ g) : Kp R w0 (w.setCell ⟨g, j, none⟩ v) :=
  ⟨h.os, h.tape, h.output, by simpa using h.size, fun k hR hk => by rw [Below.heap_setCell _ _ _ k (by simp only; omega)]; exact h.block k hR hk⟩
theorem Blk.cellFar {w : World} {n : Nat} {l : List Value} (h : Blk w n l) {g : Nat} (j : Nat) (v : Value) (hg : n ≠ g) : Blk (w.setCell ⟨g, j, none⟩ v) n l :=
  ⟨by simpa using h.lt, fun i u hu => by rw [World.cell?_setCell_other _ _ _ _ (fun e => hg (congrArg Addr.block e).symm)]; exact h.cell i u hu⟩
theorem wpList_app0At (w : World) {ops : Array Oper} {rest : List Oper} {o : Oper} {a : Act} {Q : Exit → Act → World → Prop} (hgd : o.guard = none) (s x : Operand)
    (ho : o.op = .call { callee := .builtin .append, args := #[s, x], argTypes := #[32, 32] })
    (g : Nat) (hg : g = w.heap.size) (hs : a.eval s = .slice (some ⟨g, 0, none⟩) 0 0)
    (a2 : Option Addr) (n2 c2 : Nat) (cs : List UInt8) (hx : a.eval x = .slice a2 n2 c2) (hsrc : BsAt w a2 n2 c2 cs) (hl : n2 ≤ 140737488355328)
    (h : ∀ a' c' w', OwnB w' w.heap.size a' n2 c' cs → Below w.heap.size w w' → wpList Try.prog ops Q rest (a.put o.dst (.slice a' n2 c')) w') :
    wpList Try.prog ops Q (o :: rest) a (w.alloc (.cells #[] 5)) := by
  subst hg
  exact wpList_app0 w hgd s x ho hs a2 n2 c2 cs hx hsrc hl h
end Go.Proofs.Ytkelahekfkhcfaa
