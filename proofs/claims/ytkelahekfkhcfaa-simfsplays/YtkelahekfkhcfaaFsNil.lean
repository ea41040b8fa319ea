/- What is asked of simfs where there is no file system. -/
import Derived.Test.YtkelahekfkhcfaaFsFace
namespace Go.Proofs.Ytkelahekfkhcfaa
open Go.RowKit
structure FsNil : Prop where
  create : ∀ (w : World) (s : ByteArray), Calls Try.prog 16 #[.pointer none, .string s] w fun e w' => e = .returned (.int .i64 1) ∧ Below w.heap.size w w'
  append : ∀ (w : World) (s : ByteArray) (a : Option Addr) (len cap : Nat), Calls Try.prog 17 #[.pointer none, .string s, .slice a len cap] w fun e w' => e = .returned (.int .i64 1) ∧ Below w.heap.size w w'
  sync : ∀ (w : World) (s : ByteArray), Calls Try.prog 18 #[.pointer none, .string s] w fun e w' => e = .returned (.int .i64 1) ∧ Below w.heap.size w w'
  rename : ∀ (w : World) (s t : ByteArray), Calls Try.prog 20 #[.pointer none, .string s, .string t] w fun e w' => e = .returned (.int .i64 1) ∧ Below w.heap.size w w'
  remove : ∀ (w : World) (s : ByteArray), Calls Try.prog 27 #[.pointer none, .string s] w fun e w' => e = .returned (.int .i64 1) ∧ Below w.heap.size w w'
  syncDir : ∀ (w : World), Calls Try.prog 19 #[.pointer none] w fun e w' => e = .returned (.int .i64 1) ∧ Below w.heap.size w w'
  read : ∀ (w : World) (s : ByteArray), Calls Try.prog 22 #[.pointer none, .string s] w fun e w' => ∃ a c, e = .returned (.tuple #[.slice a 0 c, .int .i64 1]) ∧ Below w.heap.size w w'
  list : ∀ (w : World), Calls Try.prog 23 #[.pointer none] w fun e w' => ∃ a c, e = .returned (.tuple #[.slice a 0 c, .int .i64 1]) ∧ Below w.heap.size w w'
  ops : ∀ (w : World), Calls Try.prog 29 #[.pointer none] w fun e w' => e = .returned (.int .i64 0) ∧ Below w.heap.size w w'
  fuse : ∀ (w : World) (n : Int), Calls Try.prog 25 #[.pointer none, .int .i64 n] w fun e w' => e = .returned (.tuple #[]) ∧ Below w.heap.size w w'
  fail : ∀ (w : World) (n : Int), Calls Try.prog 26 #[.pointer none, .int .i64 n] w fun e w' => e = .returned (.tuple #[]) ∧ Below w.heap.size w w'
  damage : ∀ (w : World) (s : ByteArray) (n t : Int), Calls Try.prog 28 #[.pointer none, .string s, .int .i64 n, .int .u8 t] w fun e w' => e = .returned (.int .i64 1) ∧ Below w.heap.size w w'
  crash : ∀ (w : World) (a : Option Addr) (len cap : Nat), Calls Try.prog 21 #[.pointer none, .slice a len cap] w fun e w' => e = .returned (.tuple #[]) ∧ Below w.heap.size w w'
  copy : ∀ (w : World), Calls Try.prog 14 #[.pointer none] w fun e w' => e = .returned (.pointer none) ∧ Below w.heap.size w w'
/-- A block that begins with these cells. -/
structure Blk (w : World) (n : Nat) (l : List Value) : Prop where
  lt : n < w.heap.size
  cell : ∀ j v, l[j]? = some v → w.cell? ⟨n, j, none⟩ = some v
theorem Blk.below {B n : Nat} {w w' : World} {l : List Value} (h : Blk w n l) (hB : w.heap.size ≤ B) (hb : Below B w w') : Blk w' n l :=
  ⟨Nat.lt_of_lt_of_le h.lt hb.size, fun j v hv => by rw [hb.cell (Nat.lt_of_lt_of_le h.lt hB)]; exact h.cell j v hv⟩
theorem Blk.new (w : World) (l : List Value) (t : TypeId) : Blk (w.alloc (.cells l.toArray t)) w.heap.size l := by
  refine ⟨by simp, fun j v hv => ?_⟩
  rw [cell_of_row (w.alloc (.cells l.toArray t)) w.heap.size j l.toArray t (0, 0) (heap_alloc_new w _)]
  simpa using hv
end Go.Proofs.Ytkelahekfkhcfaa
