/- What manifest answers where there is no file system. -/
import Derived.Test.YtmlfbihlbiikeabGreatDoorQa32
import Derived.Test.YtmlfbihlbiikeabGreatDoorQa47
namespace Go.Proofs.YtmlfbihlbiikeabGreatDoor
open Go.RowKit
set_option linter.unusedVariables false
set_option linter.unusedSimpArgs false
set_option maxRecDepth 100000
theorem readable_nil15 (w : World) : Calls Tryz.prog 27 #[.pointer none] w fun e w' => e = .returned (.int .i64 1) ∧ Below w.heap.size w w' := by
  go_enter Tryz.func27, Tryz.ntmps27
  go_wp2
  go_ret
  exact ⟨rfl, Below.refl _ _⟩
theorem read_nil15 (w : World) (s : ByteArray) : Calls Tryz.prog 10 #[.pointer none, .string s] w fun e w' => ∃ a c, e = .returned (.tuple #[.slice a 0 c, .int .i64 1]) ∧ Below w.heap.size w w' := by
  go_enter Tryz.func10, Tryz.ntmps10
  go_wp2_with (go_at_call 27; refine (readable_nil15 _).mono ?_; rintro e w' ⟨rfl, hb⟩)
  all_goals
    go_wp2
    go_returns
    exact ⟨_, _, rfl, hb⟩
theorem mread_nil (w : World) (s : ByteArray) (d : Int) : Calls Tryz.prog 38 #[.pointer none, .string s, .int .i64 d] w fun e w' => ∃ a c, e = .returned (.tuple #[.slice a 0 c, .int .i64 1]) ∧ Below w.heap.size w w' := by
  go_enter Tryz.func38, Tryz.ntmps38
  go_wp2_with fail
  refine (read_nil15 w s).mono ?_
  rintro _ w1 ⟨a1, c1, rfl, hb1⟩
  go_wp2
  try go_ret2
  exact ⟨a1, c1, ret2 rfl rfl, hb1⟩
set_option maxHeartbeats 2000000 in
theorem load_nil (w : World) (hg : Gl w) : Calls Tryz.prog 14 #[.pointer none] w fun e w' => e = .returned (.tuple #[sV zS sv0, .int .i64 1]) ∧ Below w.heap.size w w' := by
  obtain ⟨W0, eW0, H0⟩ : ∃ W0, Hid (W0 = w.alloc (.cells (sA zS sv0) TSt)) ∧ Hid (Below w.heap.size w W0 ∧ Box W0 w.heap.size TSt (sA zS sv0) ∧ Gl W0) := ⟨_, rfl, (Below.refl _ _).alloc (Nat.le_refl _) _, Box.new _ _ _, hg.later ((Below.refl _ _).alloc (Nat.le_refl _) _)⟩
  have HNM := name_any 4 ⟨by decide, by decide⟩ 0 (by omega) W0 H0.out.2.2
  rw [show nameP 4 0 = curB from rfl] at HNM
  go_enter Tryz.func14, Tryz.ntmps14
  go_wp2_with fail
  rw [show (w.alloc (Obj.cells #[Value.int IntKind.u64 0, Value.slice none 0 0, Value.slice none 0 0, Value.slice none 0 0, Value.slice none 0 0, Value.int IntKind.u64 0, Value.int IntKind.u64 0, Value.int IntKind.u64 0] TSt)) = W0 from eW0.out.symm]
  refine HNM.mono ?_
  rintro _ w2 ⟨rfl, hb2⟩
  have HR := mread_nil w2 (strOf curB) 150
  go_wp2_with fail
  refine HR.mono ?_
  rintro _ w3 ⟨a3, c3, rfl, hb3⟩
  have H3 : Hid (Below w.heap.size w w3 ∧ Box w3 w.heap.size TSt (sA zS sv0)) := by
    have hb := hb2.trans (hb3.mono hb2.size)
    exact ⟨H0.out.1.trans (hb.mono H0.out.1.size), H0.out.2.1.kept (hb.block _ H0.out.2.1.lt)⟩
  clear HR HNM hb2 hb3 eW0 H0
  obtain ⟨r0, r1, r2, r3, r4, r5, r6, r7⟩ := H3.out.2.eight
  have rs : ∀ j, w3.frozen? ⟨w.heap.size, j, none⟩ = false := fun j => H3.out.2.soft j
  obtain ⟨Z, eZ, z0, z1, z2, z3, z4, z5, z6, z7, HZ⟩ := put8_all H3.out.2 (.int .u64 0) (.slice none 0 0) (.slice none 0 0) (.slice none 0 0) (.slice none 0 0) (.int .u64 0) (.int .u64 0) (.int .u64 0)
  have HF : Hid (Below w.heap.size w Z) := H3.out.1.trans (HZ.out.2.below (fun k hk => by omega) H3.out.1.size)
  go_wp2
  rw [← eZ]
  refine bodyPost_ret (v := .tuple #[.agg #[.int .u64 0, .slice none 0 0, .slice none 0 0, .slice none 0 0, .slice none 0 0, .int .u64 0, .int .u64 0, .int .u64 0], .int .i64 1]) (by simp [results, Tryz.results14, go_sem, z0, z1, z2, z3, z4, z5, z6, z7]) rfl ?_
  exact ⟨rfl, HF.out⟩
theorem write_nil (w : World) (v : Value) (hv : ∃ s t, v = sV s t) : Calls Tryz.prog 8 #[.pointer none, v] w fun e w' => e = .returned (.int .i64 1) ∧ Below w.heap.size w w' := by
  obtain ⟨s, t, rfl⟩ := hv
  go_enter Tryz.func8, Tryz.ntmps8
  go_wp2
  try go_ret
  exact ⟨ret1 rfl, ((Below.refl _ _).alloc (Nat.le_refl _) _).alloc (by simp) _⟩
theorem append_nil15 (w : World) (x : PE) (sx : SE) (n : Nat) : Calls Tryz.prog 11 #[.pointer none, .int .u64 (n : Int), .agg #[.int .u64 (x.log : Int), .int .u64 (x.next : Int), .int .u64 (x.last : Int), .slice sx.a x.dels.length sx.c, .slice sx.a' x.adds.length sx.c']] w fun e w' => e = .returned (.int .i64 1) ∧ Below w.heap.size w w' := by
  go_enter Tryz.func11, Tryz.ntmps11
  go_wp2
  try go_ret
  exact ⟨ret1 rfl, ((Below.refl _ _).alloc (Nat.le_refl _) _).alloc (by simp) _⟩
end Go.Proofs.YtmlfbihlbiikeabGreatDoor
