/- An arena, plainly, and in memory. -/
import Derived.Test.YtedddgkdpeielaaB6Zero
import Derived.Test.YtedddgkdpeielaaOwn
import Derived.Test.YtedddgkdpeielaaBoxM
import Derived.Laws.CopyRow
import Derived.Laws.IdiomCopy
import Derived.Deep.OwnRows
namespace Go.Proofs.Ytedddgkdpeielaa
open Go.RowKit
structure PA where
  used : Nat
  bytes : List UInt8
  cells : List Int
structure PA.Inv (A : PA) : Prop where
  used : A.used ≤ A.bytes.length
  size : A.bytes.length ≤ 65536
  cells : A.cells.length * 8 ≤ A.used
  wf : ∀ n ∈ A.cells, in64 n
def PA.alloc (A : PA) (n : Int) : Int × Int × PA :=
  if n < 1 then (0, 1, A) else if (A.bytes.length : Int) - A.used < n then (0, 60, A) else (A.used, 0, { A with used := A.used + n.toNat })
def PA.cell (A : PA) : Int × Int × PA :=
  if (A.bytes.length : Int) - A.used < 8 then (0, 60, A) else (A.cells.length, 0, { A with used := A.used + 8, cells := A.cells ++ [0] })
def PA.has (A : PA) (c : Int) : Bool := decide (0 ≤ c) && decide (c < A.cells.length)
def PA.load (A : PA) (c : Int) : Int × Int := if A.has c then (A.cells.getD c.toNat 0, 0) else (0, 1)
def PA.store (A : PA) (c n : Int) : Int × PA := if A.has c then (0, { A with cells := A.cells.set c.toNat n }) else (1, A)
def PA.cas (A : PA) (c old n : Int) : Bool × Int × PA :=
  if A.has c then (if A.cells.getD c.toNat 0 = old then (true, 0, { A with cells := A.cells.set c.toNat n }) else (false, 0, A)) else (false, 1, A)
def PA.fits (A : PA) (at' n : Int) : Bool := decide (0 ≤ at') && decide (0 ≤ n) && decide (at' + n ≤ A.used)
def PA.put (A : PA) (at' : Int) (bs : List UInt8) : Int × PA :=
  if A.fits at' bs.length then (0, { A with bytes := A.bytes.take at'.toNat ++ bs ++ A.bytes.drop (at'.toNat + bs.length) }) else (1, A)
def PA.get (A : PA) (at' n : Int) : List UInt8 × Int := if A.fits at' n then ((A.bytes.drop at'.toNat).take n.toNat, 0) else ([], 1)
def PA.new (size : Nat) : PA := ⟨0, List.replicate size 0, []⟩

theorem PA.new_inv {size : Nat} (h : size ≤ 65536) : (PA.new size).Inv := ⟨by simp [PA.new], by simp [PA.new]; exact h, by simp [PA.new], by simp [PA.new]⟩
theorem PA.alloc_inv {A : PA} (h : A.Inv) (n : Int) : (A.alloc n).2.2.Inv := by
  have h1 := h.used
  have h2 := h.size
  have h3 := h.cells
  unfold PA.alloc
  split
  · exact h
  · split
    · exact h
    · exact ⟨by simp; omega, h.size, by simp; omega, h.wf⟩
theorem PA.cell_inv {A : PA} (h : A.Inv) : A.cell.2.2.Inv := by
  have h1 := h.used
  have h3 := h.cells
  unfold PA.cell
  split
  · exact h
  · refine ⟨by simp; omega, h.size, by simp; omega, fun n hn => ?_⟩
    rcases List.mem_append.1 hn with hn | hn
    · exact h.wf n hn
    · rw [List.mem_singleton.1 hn]
      unfold in64
      omega
theorem set_wf {l : List Int} (h : ∀ n ∈ l, in64 n) (k : Nat) {x : Int} (hx : in64 x) : ∀ n ∈ l.set k x, in64 n := fun n hn => by
  rcases List.mem_or_eq_of_mem_set hn with hn | rfl
  · exact h n hn
  · exact hx
theorem PA.set_inv {A : PA} (h : A.Inv) (k : Nat) {x : Int} (hx : in64 x) : ({ A with cells := A.cells.set k x } : PA).Inv := ⟨h.used, h.size, by simpa using h.cells, set_wf h.wf k hx⟩
theorem PA.store_inv {A : PA} (h : A.Inv) (c : Int) {n : Int} (hn : in64 n) : (A.store c n).2.Inv := by
  unfold PA.store
  split
  · exact PA.set_inv h _ hn
  · exact h
theorem PA.cas_inv {A : PA} (h : A.Inv) (c old : Int) {n : Int} (hn : in64 n) : (A.cas c old n).2.2.Inv := by
  unfold PA.cas
  split
  · split
    · exact PA.set_inv h _ hn
    · exact h
  · exact h
theorem over_length {bytes bs : List UInt8} {k : Nat} (h : k + bs.length ≤ bytes.length) : (bytes.take k ++ bs ++ bytes.drop (k + bs.length)).length = bytes.length := by
  simp
  omega
theorem PA.put_len {A : PA} (h : A.Inv) (at' : Int) (bs : List UInt8) : (A.put at' bs).2.bytes.length = A.bytes.length := by
  have h1 := h.used
  unfold PA.put
  split
  · rename_i hf
    simp [PA.fits] at hf
    exact over_length (by omega)
  · rfl
theorem PA.put_inv {A : PA} (h : A.Inv) (at' : Int) (bs : List UInt8) : (A.put at' bs).2.Inv := by
  have hl := PA.put_len h at' bs
  have e1 : (A.put at' bs).2.used = A.used := by unfold PA.put; split <;> rfl
  have e2 : (A.put at' bs).2.cells = A.cells := by unfold PA.put; split <;> rfl
  exact ⟨by rw [e1, hl]; exact h.used, by rw [hl]; exact h.size, by rw [e1, e2]; exact h.cells, by rw [e2]; exact h.wf⟩
theorem PA.get_len {A : PA} (h : A.Inv) (at' n : Int) (hf : A.fits at' n = true) : (A.get at' n).1.length = n.toNat := by
  have h1 := h.used
  have hf' := hf
  simp [PA.fits] at hf'
  simp [PA.get, hf]
  omega

/-- The cells of an arena. -/
def arL (A : PA) : List Value := .int .i64 (A.bytes.length : Int) :: .int .i64 (A.used : Int) :: (cellsB A.bytes ++ (List.replicate (65536 - A.bytes.length) (.int .u8 0) ++ (.int .i64 (A.cells.length : Int) :: (cellsN A.cells ++ List.replicate (8192 - A.cells.length) (.int .i64 0)))))
theorem cellsN_length (l : List Int) : (cellsN l).length = l.length := by simp [cellsN]
abbrev TA : TypeId := 55
structure ArAt (w : World) (p : Nat) (A : PA) : Prop where
  box : Box w p TA (arL A).toArray
  inv : A.Inv
theorem arL_len {A : PA} (h : A.Inv) : (arL A).length = 73731 := by
  have h1 := h.size
  have h2 := h.used
  have h3 := h.cells
  simp [arL, cellsB_length, cellsN_length]
  omega
section
variable {w w' : World} {p : Nat} {A : PA}
theorem ArAt.c0 (h : ArAt w p A) : w.cell? ⟨p, 0, none⟩ = some (.int .i64 (A.bytes.length : Int)) := by
  rw [h.box.cell 0]
  simp [arL]
theorem ArAt.c1 (h : ArAt w p A) : w.cell? ⟨p, 1, none⟩ = some (.int .i64 (A.used : Int)) := by
  rw [h.box.cell 1]
  simp [arL]
theorem arL_tail {A : PA} (h : A.Inv) (k : Nat) : (arL A)[65538 + k]? = (Value.int .i64 (A.cells.length : Int) :: (cellsN A.cells ++ List.replicate (8192 - A.cells.length) (.int .i64 0)))[k]? := by
  have h1 := h.size
  unfold arL
  rw [show 65538 + k = 65536 + k + 1 + 1 by omega, List.getElem?_cons_succ, List.getElem?_cons_succ, List.getElem?_append_right (by rw [cellsB_length]; omega), List.getElem?_append_right (by rw [cellsB_length, List.length_replicate]; omega)]
  congr 1
  rw [cellsB_length, List.length_replicate]
  omega
theorem ArAt.cn (h : ArAt w p A) : w.cell? ⟨p, 65538, none⟩ = some (.int .i64 (A.cells.length : Int)) := by
  rw [h.box.cell 65538]
  simpa using arL_tail h.inv 0
theorem ArAt.ck (h : ArAt w p A) {k : Nat} (hk : k < A.cells.length) : w.cell? ⟨p, 65539 + k, none⟩ = some (.int .i64 (A.cells.getD k 0)) := by
  rw [h.box.cell (65539 + k)]
  have := arL_tail h.inv (k + 1)
  rw [show 65538 + (k + 1) = 65539 + k by omega, List.getElem?_cons_succ, List.getElem?_append_left (by rw [cellsN_length]; exact hk), cellsN_get _ _ hk] at this
  simpa using this
theorem ArAt.soft (h : ArAt w p A) (j : Nat) : w.frozen? ⟨p, j, none⟩ = false := h.box.soft j
theorem ArAt.lt (h : ArAt w p A) : p < w.heap.size := h.box.lt
theorem ArAt.kept (h : ArAt w p A) (hk : w'.heap[p]? = w.heap[p]?) : ArAt w' p A := ⟨h.box.kept hk, h.inv⟩
theorem ArAt.below (h : ArAt w p A) (hb : Below w.heap.size w w') : ArAt w' p A := h.kept (hb.block p h.lt)
theorem ArAt.alloc (h : ArAt w p A) (o : Obj) : ArAt (w.alloc o) p A := ⟨h.box.alloc o, h.inv⟩
theorem ArAt.other (h : ArAt w p A) {q : Nat} (hq : p ≠ q) (j : Nat) (v : Value) : ArAt (w.setCell ⟨q, j, none⟩ v) p A := ⟨h.box.other hq j v, h.inv⟩
theorem ArAt.chg {R : Nat → Prop} (h : ArAt w p A) (hc : Chg R w w') (hR : ¬ R p) : ArAt w' p A := h.kept (hc.block p h.lt hR)
theorem setArr6 (l : List Value) (j : Nat) (v : Value) : l.toArray.setIfInBounds j v = (l.set j v).toArray := by simp
theorem ArAt.setUsed (h : ArAt w p A) (u : Nat) (hi : ({ A with used := u } : PA).Inv) : ArAt (w.setCell ⟨p, 1, none⟩ (.int .i64 (u : Int))) p { A with used := u } := by
  refine ⟨Box.eq (h.box.set 1 _) ?_, hi⟩
  rw [setArr6]
  rfl
theorem set_app_right {α : Type} (l m : List α) (k : Nat) (v : α) : (l ++ m).set (l.length + k) v = l ++ m.set k v := by
  rw [List.set_append, if_neg (by omega)]
  congr 2
  omega
theorem arL_set {A : PA} (h : A.Inv) (k : Nat) (v : Value) : (arL A).set (65538 + k) v = .int .i64 (A.bytes.length : Int) :: .int .i64 (A.used : Int) :: (cellsB A.bytes ++ (List.replicate (65536 - A.bytes.length) (.int .u8 0) ++ (Value.int .i64 (A.cells.length : Int) :: (cellsN A.cells ++ List.replicate (8192 - A.cells.length) (.int .i64 0))).set k v)) := by
  have h1 := h.size
  unfold arL
  rw [show 65538 + k = 65536 + k + 1 + 1 by omega, List.set_cons_succ, List.set_cons_succ]
  have e : 65536 + k = (cellsB A.bytes).length + ((List.replicate (65536 - A.bytes.length) (Value.int .u8 0)).length + k) := by
    rw [cellsB_length, List.length_replicate]
    omega
  rw [e, set_app_right, set_app_right]
theorem ArAt.addCell (h : ArAt w p A) (hc : A.cells.length < 8192) (hi : ({ A with cells := A.cells ++ [0] } : PA).Inv) : ArAt (w.setCell ⟨p, 65538, none⟩ (.int .i64 ((A.cells.length : Int) + 1))) p { A with cells := A.cells ++ [0] } := by
  refine ⟨Box.eq (h.box.set 65538 _) ?_, hi⟩
  rw [setArr6]
  congr 1
  have := arL_set h.inv 0 (.int .i64 ((A.cells.length : Int) + 1))
  rw [Nat.add_zero, List.set_cons_zero] at this
  rw [this]
  unfold arL
  have e : 8192 - A.cells.length = (8192 - (A.cells.length + 1)) + 1 := by omega
  simp only [List.length_append, List.length_singleton]
  rw [e, List.replicate_succ]
  simp [cellsN]
theorem ArAt.setK (h : ArAt w p A) {k : Nat} (hk : k < A.cells.length) (n : Int) (hn : in64 n) : ArAt (w.setCell ⟨p, 65539 + k, none⟩ (.int .i64 n)) p { A with cells := A.cells.set k n } := by
  refine ⟨Box.eq (h.box.set (65539 + k) _) ?_, PA.set_inv h.inv k hn⟩
  rw [setArr6]
  congr 1
  have := arL_set h.inv (k + 1) (.int .i64 n)
  rw [show 65538 + (k + 1) = 65539 + k by omega, List.set_cons_succ, List.set_append, if_pos (by rw [cellsN_length]; exact hk)] at this
  rw [this]
  unfold arL
  simp [cellsN, List.map_set]
/-- The bytes that were given out, as a slice. -/
theorem ArAt.bs (h : ArAt w p A) (k n : Nat) (hk : k + n ≤ A.bytes.length) : BsAt w (some ⟨p, 2 + k, none⟩) n n ((A.bytes.drop k).take n) := by
  have h1 := h.inv.size
  refine ⟨by simp; omega, Nat.le_refl _, by unfold maxLen; omega, by simp, fun _ => ⟨p, 2 + k, rfl, fun j hj => ?_⟩⟩
  rw [h.box.cell]
  have e : (arL A)[2 + k + j]? = (cellsB A.bytes)[k + j]? := by
    unfold arL
    rw [show 2 + k + j = k + j + 1 + 1 by omega, List.getElem?_cons_succ, List.getElem?_cons_succ, List.getElem?_append_left (by rw [cellsB_length]; omega)]
  rw [cellsB_get _ _ (by omega)] at e
  simp at e
  simp [e, List.getD, hj]
theorem cellsB_take (l : List UInt8) (k : Nat) : cellsB (l.take k) = (cellsB l).take k := by simp [cellsB]
theorem cellsB_drop (l : List UInt8) (k : Nat) : cellsB (l.drop k) = (cellsB l).drop k := by simp [cellsB]
theorem arL_over {A : PA} (k : Nat) (bs : List UInt8) (hk : k + bs.length ≤ A.bytes.length) : (arL A).take (2 + k) ++ cellsB bs ++ (arL A).drop (2 + k + (cellsB bs).length) = arL { A with bytes := A.bytes.take k ++ bs ++ A.bytes.drop (k + bs.length) } := by
  unfold arL
  simp only [over_length hk]
  rw [show 2 + k = k + 1 + 1 by omega, List.take_succ_cons, List.take_succ_cons, cellsB_length, show k + 1 + 1 + bs.length = k + bs.length + 1 + 1 by omega, List.drop_succ_cons, List.drop_succ_cons, List.take_append_of_le_length (by rw [cellsB_length]; omega), List.drop_append_of_le_length (by rw [cellsB_length]; omega), cellsB_append, cellsB_append, cellsB_take, cellsB_drop]
  simp only [List.cons_append, List.append_assoc]
end
end Go.Proofs.Ytedddgkdpeielaa
