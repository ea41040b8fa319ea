/- The contracts of the document's own Same and SameFiles, at edits that are the same. -/
import Derived.Test.YtcdfgcjecmpjhaaE13Check
namespace Go.Proofs.Ytcdfgcjecmpjhaa
open Go.RowKit
set_option linter.unusedVariables false
set_option linter.unusedSimpArgs false
theorem run_neq_gone (l n : Int) (W : World) : (binOp .neq 52 (.agg #[.int .i64 l, .int .u64 n]) (.agg #[.int .i64 l, .int .u64 n])).run Try.prog W = .ok (.bool false) W := by
  simp [go_sem, Try.underlying52, Try.underlying33, Try.underlying3]
set_option maxRecDepth 100000 in
theorem run_neq_file (l n z : Int) (s : ByteArray) (q k : Int) (t : ByteArray) (r j : Int) (W : World) : (binOp .neq 50 (.agg #[.int .i64 l, .int .u64 n, .int .i64 z, .string s, .int .u64 q, .int .i64 k, .string t, .int .u64 r, .int .i64 j]) (.agg #[.int .i64 l, .int .u64 n, .int .i64 z, .string s, .int .u64 q, .int .i64 k, .string t, .int .u64 r, .int .i64 j])).run Try.prog W = .ok (.bool false) W := by
  simp [go_sem, Try.underlying50, Try.underlying48, Try.underlying33, Try.underlying3, Try.underlying9]
set_option maxRecDepth 100000 in
set_option maxHeartbeats 1000000 in
theorem sameFiles_eq {l : List PF} {a a' : Option Addr} {n c c' : Nat} {w : World} (h : FlAt w a n c l) (h' : FlAt w a' n c' l) :
    Calls Try.prog 20 #[.slice a n c, .slice a' n c'] w fun e w' => e = .returned (.bool true) ∧ Below w.heap.size w w' := by
  have HS : Hid (FlAt w a n c l ∧ FlAt w a' n c' l ∧ l.length = n) := ⟨h, h', h.size⟩
  have hm := h.row.max
  have hl := h.row.le
  unfold maxLen at hm
  clear h h'
  go_enter Try.func20, Try.ntmps20
  go_wp2_with fail
  go_loopw [5] (fun i wr => ∃ k : Nat, k ≤ n ∧ i = .int .i64 (k : Int) ∧ Hid (Below w.heap.size w wr)) (fun i _ => n - (intOf i).toNat)
  case atStart => exact ⟨0, Nat.zero_le _, rfl, Below.refl _ _⟩
  case round =>
    obtain ⟨k, hk, rfl, HR⟩ := hrel
    by_cases hkn : k < n
    · have hkl : k < l.length := by rw [HS.out.2.2]; exact hkn
      obtain ⟨b, o, hidx, _, hcs⟩ := HS.out.1.at hkl
      obtain ⟨b', o', hidx', _, hcs'⟩ := HS.out.2.1.at hkl
      obtain ⟨c0, c1, c2, c3, c4, c5, c6, c7, c8⟩ := hcs wr HR.out
      obtain ⟨d0, d1, d2, d3, d4, d5, d6, d7, d8⟩ := hcs' wr HR.out
      clear hcs hcs'
      generalize l[k] = f at c0 c1 c2 c3 c4 c5 c6 c7 c8 d0 d1 d2 d3 d4 d5 d6 d7 d8
      have hne := fun W => run_neq_file f.level f.num f.size f.small.user f.small.seq f.small.kind f.large.user f.large.seq f.large.kind W
      go_wp2_with fail
      go_quiet (fail)
      go_wp2
      go_roundw
      case rel => exact ⟨k + 1, hkn, by go_num, HR.out.trans ⟨rfl, rfl, rfl, Nat.le_refl _, fun _ _ => rfl⟩⟩
      case measure => simp only [intOf]; omega
    · go_wp2
      go_ret
      exact ⟨ret1 rfl, HR.out⟩
end Go.Proofs.Ytcdfgcjecmpjhaa
