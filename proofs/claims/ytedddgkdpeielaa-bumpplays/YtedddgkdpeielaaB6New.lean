/- The contract of New. -/
import Derived.Test.YtedddgkdpeielaaB6Put
import Derived.Laws.Tables
namespace Go.Proofs.Ytedddgkdpeielaa
open Go.RowKit
theorem arZero_it : ∃ it, Try.prog.info? TA = some it ∧ it.zero = some (.agg arZeros.toArray) := by
  have h := arInfo
  cases hq : Try.prog.info? TA with
  | none => rw [show Try.prog.info? 55 = none from hq] at h; cases h
  | some it =>
    rw [show Try.prog.info? 55 = some it from hq] at h
    exact ⟨it, rfl, zeroLooks_eq (by simpa using h)⟩
theorem arZeros_eq (s : Nat) (h : s ≤ 65536) : arZeros.toArray.setIfInBounds 0 (.int .i64 (s : Int)) = (arL (PA.new s)).toArray := by
  rw [setArr6]
  congr 1
  unfold arZeros arL PA.new
  have e : cellsB (List.replicate s 0) = List.replicate s (Value.int .u8 0) := by simp [cellsB]
  rw [show List.replicate 2 (Value.int .i64 0) = [.int .i64 0, .int .i64 0] from rfl, show List.replicate 1 (Value.int .i64 0) = [.int .i64 0] from rfl]
  simp only [e, List.length_replicate, List.length_nil, Nat.sub_zero, List.cons_append, List.nil_append, List.set_cons_zero, cellsN, List.map_nil]
  rw [← List.append_assoc, List.replicate_append_replicate, show s + (65536 - s) = 65536 by omega]
  rfl
theorem arZeros_size : arZeros.toArray.size = 73731 := by
  simp only [List.size_toArray, arZeros, List.length_append, List.length_replicate]
set_option maxRecDepth 100000 in
theorem new_no {w : World} (s : Int) (h : s < 0 ∨ 65536 < s) : Calls Try.prog 9 #[.int .i64 s] w fun e w' => e = .returned (.tuple #[.pointer none, .int .i64 1]) ∧ w' = w := by
  by_cases h1 : s < 0
  · clear h
    go_enter Try.func9, Try.ntmps9
    go_wp2
    go_returns
    exact ⟨rfl, rfl⟩
  · have h2 : 65536 < s := by omega
    clear h
    go_enter Try.func9, Try.ntmps9
    go_wp2
    go_returns
    exact ⟨rfl, rfl⟩
set_option maxRecDepth 100000 in
theorem new_at {w : World} (s : Nat) (h : s ≤ 65536) : Calls Try.prog 9 #[.int .i64 (s : Int)] w fun e w' => e = .returned (.tuple #[at_ w.heap.size, .int .i64 0]) ∧ ArAt w' w.heap.size (PA.new s) ∧ Below w.heap.size w w' ∧ w'.heap.size = w.heap.size + 1 := by
  have h1 : ¬ ((s : Int) < 0) := by omega
  have h2 : ¬ (65536 < (s : Int)) := by omega
  obtain ⟨Z, L, hz, hz0, hset, hL⟩ : ∃ Z L : Array Value, (∀ W : World, (zeroValue 55).run Try.prog W = .ok (.agg Z) W) ∧ ¬ (Z = #[]) ∧ Z.setIfInBounds 0 (.int .i64 (s : Int)) = L ∧ Hid (L = (arL (PA.new s)).toArray) := by
    refine ⟨arZeros.toArray, _, fun W => ?_, fun e => ?_, arZeros_eq s h, rfl⟩
    · obtain ⟨it, h3, h4⟩ := arZero_it
      simp [zeroValue, typeInfo, h3, h4]
    · have := congrArg Array.size e
      rw [arZeros_size] at this
      cases this
  have HB : Hid (Box (w.alloc (.cells L 55)) w.heap.size TA L) := Box.new w TA L
  have HS : Hid (s ≤ 65536) := h
  clear h
  go_enter Try.func9, Try.ntmps9
  go_wp2
  go_returns
  have hb := HB.out
  rw [hL.out] at hb ⊢
  exact ⟨rfl, ⟨hb, PA.new_inv HS.out⟩, (Below.refl _ _).alloc (Nat.le_refl _) _, by simp⟩
end Go.Proofs.Ytedddgkdpeielaa
