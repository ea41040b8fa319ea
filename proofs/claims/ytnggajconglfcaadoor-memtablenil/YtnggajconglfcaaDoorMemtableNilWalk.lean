/- The walk of MemtableNil. -/
import Derived.Test.YtnggajconglfcaaDoorM8Own
namespace Go.Proofs.YtnggajconglfcaaDoor
open Go.RowKit
set_option linter.unusedVariables false
set_option maxRecDepth 100000 in
theorem getNil_at (u : ByteArray) (s : Int) (w : World) : Calls Tryd.prog 13 #[.pointer none, .string u, .int .u64 s] w fun e w' => e = .returned (.tuple #[.string ⟨#[]⟩, .int .i64 0]) ∧ w' = w := by
  go_enter Tryd.func13, Tryd.ntmps13
  go_wp2
  go_ret2
  exact ⟨ret2 rfl rfl, rfl⟩
set_option maxRecDepth 100000 in
theorem freezeNil_at (w : World) : Calls Tryd.prog 15 #[.pointer none] w fun e w' => e = .returned (.tuple #[]) ∧ w' = w := by
  go_enter Tryd.func15, Tryd.ntmps15
  go_wp2
  go_returns
  exact ⟨rfl, rfl⟩
set_option maxRecDepth 100000 in
theorem sizeNil_at (w : World) : Calls Tryd.prog 16 #[.pointer none] w fun e w' => e = .returned (.int .i64 0) ∧ w' = w := by
  go_enter Tryd.func16, Tryd.ntmps16
  go_wp2
  go_ret
  exact ⟨ret1 rfl, rfl⟩
set_option maxRecDepth 100000 in
theorem allNil_at (w : World) : Calls Tryd.prog 18 #[.pointer none] w fun e w' => e = .returned (.slice none 0 0) ∧ w' = w := by
  go_enter Tryd.func18, Tryd.ntmps18
  go_wp2
  go_ret
  exact ⟨ret1 rfl, rfl⟩
set_option maxRecDepth 100000 in
theorem addNil_at (u : ByteArray) (q k : Int) (v : ByteArray) (w : World) : Calls Tryd.prog 11 #[.pointer none, .agg #[.string u, .int .u64 q, .int .i64 k], .string v] w fun e w' => e = .returned (.int .i64 1) ∧ Below w.heap.size w w' := by
  go_enter Tryd.func11, Tryd.ntmps11
  go_wp2
  go_ret
  exact ⟨ret1 rfl, (Below.refl _ _).alloc (Nat.le_refl _) _⟩
set_option maxRecDepth 100000 in
set_option maxHeartbeats 1000000 in
theorem memtableNil_walk (kd : Int) (u : ByteArray) (q k : Int) (v : ByteArray) (w : World) (hg : Glob w) : Calls Tryd.prog 7 #[.agg #[.int .i64 kd, .string u, .int .u64 q, .int .i64 k, .string v]] w fun e w' => e = .returned (.bool true) ∧ Below w.heap.size w w' := by
  have hb0 : Below w.heap.size w (w.alloc (.cells #[.int .i64 kd, .string u, .int .u64 q, .int .i64 k, .string v] 34)) := (Below.refl _ _).alloc (Nat.le_refl _) _
  have HA := awake_any _ (hg.alloc (.cells #[.int .i64 kd, .string u, .int .u64 q, .int .i64 k, .string v] 34))
  clear hg
  go_enter Tryd.func7, Tryd.ntmps7
  go_wp2_with fail
  refine HA.mono ?_
  rintro _ w1 ⟨rfl, hb⟩
  have bx : Box w1 w.heap.size 34 #[.int .i64 kd, .string u, .int .u64 q, .int .i64 k, .string v] := (Box.new w 34 #[.int .i64 kd, .string u, .int .u64 q, .int .i64 k, .string v]).kept (hb.block _ (by simp))
  have HB : Hid (Below w.heap.size w w1) := hb0.trans (hb.mono hb0.size)
  have c1 : w1.cell? ⟨w.heap.size, 1, none⟩ = some (.string u) := bx.cell 1
  have c2 : w1.cell? ⟨w.heap.size, 2, none⟩ = some (.int .u64 q) := bx.cell 2
  have c3 : w1.cell? ⟨w.heap.size, 3, none⟩ = some (.int .i64 k) := bx.cell 3
  have c4 : w1.cell? ⟨w.heap.size, 4, none⟩ = some (.string v) := bx.cell 4
  clear hb HA bx
  go_wp2_with fail
  refine (getNil_at _ _ _).mono ?_
  rintro _ w2 ⟨rfl, hw2⟩
  subst hw2
  go_wp2_with fail
  refine (freezeNil_at _).mono ?_
  rintro _ w3 ⟨rfl, hw3⟩
  subst hw3
  go_wp2_with fail
  refine (addNil_at _ _ _ _ _).mono ?_
  rintro _ w4 ⟨rfl, hb4⟩
  have HB4 : Hid (Below w.heap.size w w4) := HB.out.trans (hb4.mono HB.out.size)
  clear hb4 c1 c2 c3 c4
  go_wp2_with fail
  refine (allNil_at _).mono ?_
  rintro _ w5 ⟨rfl, hw5⟩
  subst hw5
  go_wp2_with fail
  refine (sizeNil_at _).mono ?_
  rintro _ w6 ⟨rfl, hw6⟩
  subst hw6
  go_wp2
  go_ret
  exact ⟨ret1 rfl, HB4.out⟩
end Go.Proofs.YtnggajconglfcaaDoor
