/- Rows of bytes that are filled from the front; numbers as bytes. -/
import Derived.Test.YtedddgkdpeielaaB6ApPlain
namespace Go.Proofs.Ytedddgkdpeielaa
open Go.RowKit
def mix (x : UInt8) (n t : Nat) : List UInt8 := List.replicate t x ++ List.replicate (n - t) 0
theorem mix_zero (x : UInt8) (n : Nat) : mix x n 0 = List.replicate n 0 := by simp [mix]
theorem mix_full (x : UInt8) (n : Nat) : mix x n n = List.replicate n x := by simp [mix]
theorem mix_set (x : UInt8) {n t : Nat} (h : t < n) : (mix x n t).set t x = mix x n (t + 1) := by
  unfold mix
  rw [List.set_append, if_neg (by simp), List.length_replicate, Nat.sub_self, show n - t = (n - (t + 1)) + 1 by omega, List.replicate_succ, List.set_cons_zero, List.replicate_succ']
  simp
theorem mix_cell (x : UInt8) {n t : Nat} (h : t < n) : (cellsB (mix x n t)).toArray[t]? = some (.int .u8 0) := by
  have hl : t < (mix x n t).length := by simp [mix]; omega
  have e : (mix x n t).getD t 0 = 0 := by
    unfold mix
    rw [List.getD, List.getElem?_append_right (by simp), List.length_replicate, Nat.sub_self, List.getElem?_replicate, if_pos (by omega)]
    rfl
  have := cellsB_get (mix x n t) t hl
  rw [e] at this
  simpa using this
theorem ofNat_byte {j : Nat} (h : j < 256) : ((UInt8.ofNat j).toNat : Int) = (j : Int) := by
  rw [UInt8.toNat_ofNat']
  omega
theorem mix_next {x : UInt8} {n t : Nat} {v : Int} (hx : (x.toNat : Int) = v) (h : t < n) : (cellsB (mix x n t)).toArray.setIfInBounds t (.int .u8 v) = (cellsB (mix x n (t + 1))).toArray := by
  rw [setArr6, ← mix_set x h, ← hx]
  simp [cellsB, List.map_set]
theorem conv_byte (j : Nat) (h : j < 256) (W : World) : (convert 3 5 (.int .i64 (j : Int))).run Try.prog W = .ok (.int .u8 (j : Int)) W := by
  have e : IntKind.u8.wrap (j : Int) = (j : Int) := by rw [IntKind.wrap_u8]; omega
  simp [convert, run_underlying Try.underlying3, run_underlying Try.underlying5, Conv.intToInt, e]
end Go.Proofs.Ytedddgkdpeielaa
