/- Operations in memory: a slice of structs of a number and two texts, read as a list. -/
import Derived.Test.YtohhdbmkbfehfaaChecked
import Derived.Test.YtohhdbmkbfehfaaMem
namespace Go.Proofs.Ytohhdbmkbfehfaa
open Go.RowKit

/-- An operation. -/
structure Opn where
  kind : Int
  key : ByteArray
  val : ByteArray
def opn0 : Opn := ⟨0, ByteArray.empty, ByteArray.empty⟩

/-- The slice value (a, len, cap) reads as the operations l. -/
structure OpsAt (w : World) (a : Option Addr) (len cap : Nat) (l : List Opn) : Prop where
  size : l.length = len
  le : len ≤ cap
  max : cap ≤ maxLen
  bare : a = none → cap = 0
  here : 0 < len → ∃ b off, a = some ⟨b, off, none⟩ ∧ ∀ j, j < len → w.cell? ⟨b, off + j * 3, none⟩ = some (.int .i64 (l.getD j opn0).kind) ∧ w.cell? ⟨b, off + j * 3 + 1, none⟩ = some (.string (l.getD j opn0).key) ∧ w.cell? ⟨b, off + j * 3 + 2, none⟩ = some (.string (l.getD j opn0).val)

theorem OpsAt.below {B : Nat} {w w' : World} {a : Option Addr} {len cap : Nat} {l : List Opn} (h : OpsAt w a len cap l) (hB : w.heap.size ≤ B) (hb : Below B w w') : OpsAt w' a len cap l :=
  ⟨h.size, h.le, h.max, h.bare, fun hp => by
    obtain ⟨b, off, ha, hc⟩ := h.here hp
    refine ⟨b, off, ha, fun j hj => ?_⟩
    obtain ⟨h0, h1, h2⟩ := hc j hj
    have hlt : b < B := Nat.lt_of_lt_of_le (World.block_lt_of_cell? w _ h0) hB
    refine ⟨?_, ?_, ?_⟩
    · rw [hb.cell hlt]; exact h0
    · rw [hb.cell hlt]; exact h1
    · rw [hb.cell hlt]; exact h2⟩
theorem OpsAt.alloc {w : World} {a : Option Addr} {len cap : Nat} {l : List Opn} (h : OpsAt w a len cap l) (o : Obj) : OpsAt (w.alloc o) a len cap l := h.below (Nat.le_refl _) ((Below.refl _ _).alloc (Nat.le_refl _) _)
theorem OpsAt.drew {w : World} {a : Option Addr} {len cap : Nat} {l : List Opn} (h : OpsAt w a len cap l) : OpsAt w.drew a len cap l := h.below (Nat.le_refl _) (Below.refl _ _).drew
theorem OpsAt.nil (w : World) : OpsAt w none 0 0 [] := ⟨rfl, Nat.le_refl _, Nat.zero_le _, fun _ => rfl, fun h => absurd h (Nat.lt_irrefl _)⟩

/-- Two operations are the same. -/
def opEq (x y : Opn) : Bool := (x.kind == y.kind) && ((x.key.toList == y.key.toList) && (x.val.toList == y.val.toList))
theorem opEq_iff (x y : Opn) : opEq x y = true ↔ x = y := by
  obtain ⟨a, b, c⟩ := x
  obtain ⟨d, e, f⟩ := y
  simp only [opEq, Bool.and_eq_true, beq_iff_eq, Opn.mk.injEq]
  have ht : ∀ s t : ByteArray, s.toList = t.toList ↔ s = t := by
    intro s t
    rw [ByteArray.toList_eq, ByteArray.toList_eq]
    constructor
    · intro h
      cases s; cases t
      simpa using h
    · rintro rfl; rfl
  rw [ht, ht]
theorem run_neq_op (a d : Int) (b c e f : ByteArray) (W : World) : (binOp .neq 39 (.agg #[.int .i64 a, .string b, .string c]) (.agg #[.int .i64 d, .string e, .string f])).run Try.prog W = .ok (.bool (!opEq ⟨a, b, c⟩ ⟨d, e, f⟩)) W := by
  unfold opEq
  by_cases h1 : (a == d) = true
  · by_cases h2 : (b.toList == e.toList) = true
    · by_cases h3 : (c.toList == f.toList) = true
      · simp [go_sem, h1, h2, h3, Try.underlying39, Try.underlying9, Try.underlying3]
      · simp [go_sem, h1, h2, h3, Try.underlying39, Try.underlying9, Try.underlying3]
    · simp [go_sem, h1, h2, Try.underlying39, Try.underlying9, Try.underlying3]
  · simp [go_sem, h1, Try.underlying39, Try.underlying9, Try.underlying3]
/-- Two lists are the same. -/
def opsEq (l m : List Opn) : Bool := match l, m with
  | [], [] => true
  | x :: xs, y :: ys => opEq x y && opsEq xs ys
  | _, _ => false
theorem opsEq_iff : ∀ l m : List Opn, opsEq l m = true ↔ l = m
  | [], [] => by simp [opsEq]
  | [], _ :: _ => by simp [opsEq]
  | _ :: _, [] => by simp [opsEq]
  | x :: xs, y :: ys => by simp [opsEq, opEq_iff, opsEq_iff xs ys]
theorem drop_op (l : List Opn) (k : Nat) (h : k < l.length) : l.drop k = l.getD k opn0 :: l.drop (k + 1) := by
  rw [List.drop_eq_getElem_cons h]
  simp [List.getD, h]
end Go.Proofs.Ytohhdbmkbfehfaa
