/- The walk of BlockNil. -/
import Derived.Test.YtjlmjgbkeibaiaaC11Awake
namespace Go.Proofs.Ytjlmjgbkeibaiaa
open Go.RowKit
set_option linter.unusedVariables false
set_option maxRecDepth 100000 in
set_option maxHeartbeats 1000000 in
theorem blockNil_walk (s0 : ByteArray) (q0 k0 : Int) (i : Int) (w : World) (e0 : s0.size ≤ 140737488351232) (x0 : (Lit.int .u64 q0).wf = true) (_y0 : (Lit.int .i64 k0).wf = true) (hi : (Lit.int .i64 i).wf = true) :
    Calls Try.prog 8 #[.agg #[.string s0, .int .u64 q0, .int .i64 k0], .int .i64 i] w fun e w' => e = .returned (.bool true) ∧ Below w.heap.size w w' := by
  obtain ⟨n0, rfl⟩ : ∃ n : Nat, q0 = (n : Int) := by
    simp [Lit.wf, IntKind.min, IntKind.max, IntKind.bits, IntKind.signed] at x0
    exact ⟨q0.toNat, by omega⟩
  clear x0 _y0 hi e0
  have H0 : Hid (Below w.heap.size w (w.alloc (.cells #[.string s0, .int .u64 (n0 : Int), .int .i64 k0] 32)) ∧ Box (w.alloc (.cells #[.string s0, .int .u64 (n0 : Int), .int .i64 k0] 32)) w.heap.size 32 #[.string s0, .int .u64 (n0 : Int), .int .i64 k0]) := ⟨(Below.refl _ _).alloc (Nat.le_refl _) _, Box.new _ _ _⟩
  have HAt : Hid (∀ V : World, Calls Try.prog 18 #[.pointer none, .int .i64 i] V (NoAt V)) := fun V => at_no (n := 0) (fun U _ => len_nil U) (by omega)
  have HFn : Hid (∀ V : World, Calls Try.prog 16 #[.pointer none, .agg #[.string s0, .int .u64 (n0 : Int), .int .i64 k0]] V fun r w' => r = .returned (.int .i64 0) ∧ Below V.heap.size V w') := fun V => find_nil ⟨s0, n0, k0⟩ V
  have heq : ∀ V : World, (binOp .eql 42 (.agg #[.string ⟨#[]⟩, .int .u64 0, .int .i64 0, .string ⟨#[]⟩]) (.agg #[.string ⟨#[]⟩, .int .u64 0, .int .i64 0, .string ⟨#[]⟩])).run Try.prog V = .ok (.bool true) V := fun V => by
    simp [go_sem, Try.underlying42, Try.underlying32, Try.underlying9, Try.underlying30, Try.underlying3]
  go_enter Try.func8, Try.ntmps8
  go_wp2_with fail
  refine (awake_any _).mono ?_
  rintro _ w1 ⟨rfl, hb1⟩
  have H1 : Hid (Below w.heap.size w w1 ∧ Box w1 w.heap.size 32 #[.string s0, .int .u64 (n0 : Int), .int .i64 k0]) := ⟨H0.out.1.trans (hb1.mono H0.out.1.size), H0.out.2.kept (hb1.block _ H0.out.2.lt)⟩
  clear hb1 H0
  go_wp2_with fail
  refine (HAt.out _).mono ?_
  rintro _ w2 ⟨rfl, hb2⟩
  unfold kvz
  have H2 : Hid (Below w.heap.size w w2 ∧ Box w2 w.heap.size 32 #[.string s0, .int .u64 (n0 : Int), .int .i64 k0]) := ⟨H1.out.1.trans (hb2.mono H1.out.1.size), H1.out.2.kept (hb2.block _ H1.out.2.lt)⟩
  have hlt : w.heap.size < w2.heap.size := H2.out.2.lt
  have hne : w.heap.size ≠ w2.heap.size := by omega
  have c0 : w2.cell? ⟨w.heap.size, 0, none⟩ = some (.string s0) := H2.out.2.cell 0
  have c1 : w2.cell? ⟨w.heap.size, 1, none⟩ = some (.int .u64 (n0 : Int)) := H2.out.2.cell 1
  have c2 : w2.cell? ⟨w.heap.size, 2, none⟩ = some (.int .i64 k0) := H2.out.2.cell 2
  clear hb2 H1
  go_wp2_with fail
  refine (len_nil _).mono ?_
  rintro _ w3 ⟨rfl, hw3⟩
  obtain rfl := hw3
  go_wp2_with fail
  refine (HFn.out _).mono ?_
  rintro _ w4 ⟨rfl, hb4⟩
  have H4 : Hid (Below w.heap.size w w4) := (H2.out.1.alloc H2.out.1.size _).trans (hb4.mono (by have := H2.out.1.size; simp; omega))
  clear hb4
  go_wp2
  go_ret
  exact ⟨ret1 rfl, H4.out⟩
end Go.Proofs.Ytjlmjgbkeibaiaa
