/- A board and its tasks in memory. -/
import Derived.Test.YtehkcgjiimfdjaaSMem
namespace Go.Proofs.Ytehkcgjiimfdjaa
open Go.RowKit
structure Tg where
  q : Nat
  ca : Option Addr
  cc : Nat
def tg0 : Tg := ⟨0, none, 0⟩
def taskL (i : Nat) (g : Tg) (t : PTask) : List Value := .int .i64 (i : Int) :: .slice g.ca t.code.length g.cc :: .int .i64 (t.place : Int) :: (t.r.map (Value.int .i64) ++ [.int .i64 (t.ph : Int)])
structure TaskAt (w0 w : World) (i : Nat) (g : Tg) (t : PTask) : Prop where
  box : Box w g.q 67 (taskL i g t).toArray
  code : IcAt w0 g.ca t.code.length g.cc t.code
structure Bg where
  gs : List Tg
  ta : Option Addr
  tc : Nat
  ea : Option Addr
  ec : Nat
def Bg.q (g : Bg) (i : Nat) : Nat := (g.gs.getD i tg0).q
def ownV (gs : List Tg) : Option Nat → Value
  | none => .pointer none
  | some k => at_ (gs.getD k tg0).q
def boardL (B : PB) (g : Bg) : List Value := B.cells.map (Value.int .i64) ++ (B.own.map (ownV g.gs) ++ [.slice g.ta B.ts.length g.tc, .slice g.ea B.em.length g.ec, .int .i64 (B.steps : Int)])
def cellsE : List (Nat × Int) → List Value
  | [] => []
  | x :: r => .int .i64 (x.1 : Int) :: .int .i64 x.2 :: cellsE r
theorem cellsE_length : ∀ l, (cellsE l).length = l.length * 2
  | [] => rfl
  | x :: r => by
    have := cellsE_length r
    simp [cellsE, this]
    omega
theorem cellsE_append : ∀ l m, cellsE (l ++ m) = cellsE l ++ cellsE m
  | [], _ => rfl
  | x :: r, m => by rw [List.cons_append, cellsE, cellsE, cellsE_append r m]; rfl
abbrev TPT : Nat := 60
structure BdAt (w0 w : World) (p : Nat) (g : Bg) (B : PB) : Prop where
  box : Box w p 64 (boardL B g).toArray
  count : g.gs.length = B.ts.length
  tasks : ∀ i, i < B.ts.length → TaskAt w0 w i (g.gs.getD i tg0) (B.t i)
  row : w.ownsRow w0.heap.size TPT 1 (.slice g.ta B.ts.length g.tc) B.ts.length (g.gs.map fun x => at_ x.q)
  emits : w.ownsRow w0.heap.size 34 2 (.slice g.ea B.em.length g.ec) B.em.length (cellsE B.em)
  apart : ∀ i j, i < B.ts.length → j < B.ts.length → g.q i = g.q j → i = j
  hp : w0.heap.size ≤ p
  hq : ∀ i, i < B.ts.length → w0.heap.size ≤ g.q i
  base : Below w0.heap.size w0 w
/-- Rows of tasks' pointers stay. -/
structure Rest (w w' : World) : Prop where
  size : w.heap.size ≤ w'.heap.size
  block : ∀ k, tag w k = some TPT → w'.heap[k]? = w.heap[k]?
theorem Rest.refl (w : World) : Rest w w := ⟨Nat.le_refl _, fun _ _ => rfl⟩
theorem Rest.trans {a b c : World} (h : Rest a b) (k : Rest b c) : Rest a c :=
  ⟨Nat.le_trans h.size k.size, fun i hi => (k.block i (by unfold tag at hi ⊢; rw [h.block i hi]; exact hi)).trans (h.block i hi)⟩
theorem Rest.alloc (w : World) (o : Obj) : Rest w (w.alloc o) := ⟨by simp, fun k hk => Below.heap_alloc w o k (tag_lt hk)⟩
theorem Rest.set (w : World) {q t : Nat} (hq : tag w q = some t) (ht : t ≠ TPT) (j : Nat) (v : Value) : Rest w (w.setCell ⟨q, j, none⟩ v) :=
  ⟨by simp, fun k hk => Below.heap_setCell _ _ _ _ (tag_ne hk hq (fun e => ht e.symm))⟩
theorem Rest.chg {R : Nat → Prop} {w w' : World} (h : Chg R w w') (hR : ∀ k, R k → tag w k ≠ some TPT) : Rest w w' := ⟨h.size, fun k hk => h.block k (tag_lt hk) (fun hr => hR k hr hk)⟩
section
variable {w0 w w' : World} {p : Nat} {g : Bg} {B : PB}
theorem BdAt.tagP (h : BdAt w0 w p g B) : tag w p = some 64 := h.box.tag
theorem BdAt.tagQ (h : BdAt w0 w p g B) {i : Nat} (hi : i < B.ts.length) : tag w (g.q i) = some 67 := (h.tasks i hi).box.tag
theorem BdAt.tagR (h : BdAt w0 w p g B) {k : Nat} (e : blkOf g.ta = some k) : tag w k = some TPT := row_tag h.row (by rw [own_blk]; exact e)
theorem BdAt.tagE (h : BdAt w0 w p g B) {k : Nat} (e : blkOf g.ea = some k) : tag w k = some 34 := row_tag h.emits (by rw [own_blk]; exact e)
theorem BdAt.ne (h : BdAt w0 w p g B) {i : Nat} (hi : i < B.ts.length) : p ≠ g.q i := tag_ne h.tagP (h.tagQ hi) (by decide)
theorem setArr (l : List Value) (j : Nat) (v : Value) : l.toArray.setIfInBounds j v = (l.set j v).toArray := by simp
/-- A cell of the board is put. -/
theorem BdAt.setB (h : BdAt w0 w p g B) {B' : PB} {j : Nat} {v : Value} (he : (boardL B g).set j v = boardL B' g) (ht : B'.ts = B.ts) (hm : B'.em = B.em) : BdAt w0 (w.setCell ⟨p, j, none⟩ v) p g B' where
  box := Box.eq (h.box.set j v) (by rw [setArr, he])
  count := by rw [ht]; exact h.count
  tasks := fun i hi => by
    rw [ht] at hi
    have := h.tasks i hi
    unfold PB.t at this ⊢
    rw [ht]
    exact ⟨this.box.other (h.ne hi).symm j v, this.code⟩
  row := by rw [ht]; exact row_same h.row fun b e => Below.heap_setCell _ _ _ _ (tag_ne (h.tagR (by rw [← own_blk]; exact e)) h.tagP (by decide))
  emits := by rw [hm]; exact row_same h.emits fun b e => Below.heap_setCell _ _ _ _ (tag_ne (h.tagE (by rw [← own_blk]; exact e)) h.tagP (by decide))
  apart := by rw [ht]; exact h.apart
  hp := h.hp
  hq := by rw [ht]; exact h.hq
  base := h.base.setCell h.hp _
/-- A cell of a task is put. -/
theorem BdAt.setT (h : BdAt w0 w p g B) {i : Nat} (hi : i < B.ts.length) {t : PTask} {j : Nat} {v : Value} (he : (taskL i (g.gs.getD i tg0) (B.t i)).set j v = taskL i (g.gs.getD i tg0) t) (hc : t.code = (B.t i).code) : BdAt w0 (w.setCell ⟨g.q i, j, none⟩ v) p g (B.setT i t) where
  box := by
    have e : boardL (B.setT i t) g = boardL B g := by simp [boardL, PB.setT]
    rw [e]
    exact h.box.other (h.ne hi) j v
  count := by simp [PB.setT]; exact h.count
  tasks := fun k hk => by
    simp [PB.setT] at hk
    by_cases e : i = k
    · subst e
      have e1 : (B.setT i t).t i = t := by simp [PB.setT, PB.t, List.getD, hi]
      rw [e1]
      refine ⟨Box.eq ((h.tasks i hi).box.set j v) (by rw [setArr, he]), ?_⟩
      rw [hc]
      exact (h.tasks i hi).code
    · have e1 : (B.setT i t).t k = B.t k := by simp [PB.setT, PB.t, List.getD, e]
      rw [e1]
      exact ⟨(h.tasks k hk).box.other (fun e2 => e (h.apart i k hi hk (Eq.symm e2))) j v, (h.tasks k hk).code⟩
  row := by
    have e1 : (B.setT i t).ts.length = B.ts.length := by simp [PB.setT]
    rw [e1]
    exact row_same h.row fun b e => Below.heap_setCell _ _ _ _ (tag_ne (h.tagR (by rw [← own_blk]; exact e)) (h.tagQ hi) (by decide))
  emits := row_same h.emits fun b e => Below.heap_setCell _ _ _ _ (tag_ne (h.tagE (by rw [← own_blk]; exact e)) (h.tagQ hi) (by decide))
  apart := by
    have e1 : (B.setT i t).ts.length = B.ts.length := by simp [PB.setT]
    rw [e1]
    exact h.apart
  hp := h.hp
  hq := by
    have e1 : (B.setT i t).ts.length = B.ts.length := by simp [PB.setT]
    rw [e1]
    exact h.hq
  base := h.base.setCell (h.hq i hi) _
/-- All that the board reaches is as it was. -/
theorem BdAt.same (h : BdAt w0 w p g B) (hs : ∀ k, (k = p ∨ (∃ i, i < B.ts.length ∧ k = g.q i) ∨ blkOf g.ta = some k ∨ blkOf g.ea = some k) → w'.heap[k]? = w.heap[k]?) (hb : Below w0.heap.size w0 w') : BdAt w0 w' p g B where
  box := h.box.kept (hs p (.inl rfl))
  count := h.count
  tasks := fun i hi => ⟨(h.tasks i hi).box.kept (hs _ (.inr (.inl ⟨i, hi, rfl⟩))), (h.tasks i hi).code⟩
  row := row_same h.row fun b e => hs b (.inr (.inr (.inl (by rw [← own_blk]; exact e))))
  emits := row_same h.emits fun b e => hs b (.inr (.inr (.inr (by rw [← own_blk]; exact e))))
  apart := h.apart
  hp := h.hp
  hq := h.hq
  base := hb
theorem BdAt.foot_lt (h : BdAt w0 w p g B) {k : Nat} (hk : k = p ∨ (∃ i, i < B.ts.length ∧ k = g.q i) ∨ blkOf g.ta = some k ∨ blkOf g.ea = some k) : k < w.heap.size := by
  rcases hk with rfl | ⟨i, hi, rfl⟩ | e | e
  · exact tag_lt h.tagP
  · exact tag_lt (h.tagQ hi)
  · exact tag_lt (h.tagR e)
  · exact tag_lt (h.tagE e)
theorem BdAt.alloc (h : BdAt w0 w p g B) (o : Obj) : BdAt w0 (w.alloc o) p g B :=
  h.same (fun k hk => Below.heap_alloc w o k (h.foot_lt hk)) (h.base.alloc h.base.size o)
theorem BdAt.drew (h : BdAt w0 w p g B) : BdAt w0 w.drew p g B := h.same (fun _ _ => rfl) h.base.drew
theorem BdAt.codeAt (h : BdAt w0 w p g B) {i : Nat} (hi : i < B.ts.length) : IcAt w (g.gs.getD i tg0).ca (B.t i).code.length (g.gs.getD i tg0).cc (B.t i).code := (h.tasks i hi).code.below (Nat.le_refl _) h.base
end
end Go.Proofs.Ytehkcgjiimfdjaa
