/- The walks of MergeNames and MergeNil, by what is asked of merge's iterator. -/
import Derived.Test.YtfijibengmgegaaM16Awake
namespace Go.Proofs.Ytfijibengmgegaa
open Go.RowKit
set_option linter.unusedVariables false
set_option maxRecDepth 100000 in
set_option maxHeartbeats 1000000 in
theorem mergeNames_of {D : MgRel} (F : MgOk D) (w : World) :
    Calls Try.prog 3 #[] w fun e w' => e = .returned (.bool true) ∧ Below w.heap.size w w' := by
  go_enter Try.func3, Try.ntmps3
  go_wp2_with fail
  refine (awake16 F w).mono ?_
  rintro _ w1 ⟨rfl, hb1⟩
  go_wp2
  go_ret
  exact ⟨rfl, hb1⟩
set_option maxRecDepth 100000 in
set_option maxHeartbeats 1000000 in
theorem mergeNil_of {D : MgRel} (F : MgOk D) (N : MgNil) (k : IK) (w : World) :
    Calls Try.prog 7 #[.agg #[.string k.user, .int .u64 (k.seq : Int), .int .i64 k.kind]] w fun e w' => e = .returned (.bool true) ∧ Below w.heap.size w w' := by
  have H0 : Hid (Below w.heap.size w (w.alloc (.cells #[.string k.user, .int .u64 (k.seq : Int), .int .i64 k.kind] 33)) ∧ Box (w.alloc (.cells #[.string k.user, .int .u64 (k.seq : Int), .int .i64 k.kind] 33)) w.heap.size 33 #[.string k.user, .int .u64 (k.seq : Int), .int .i64 k.kind]) := ⟨(Below.refl _ _).alloc (Nat.le_refl _) _, Box.new _ _ _⟩
  have heq : ∀ V : World, (binOp .eql 35 (.agg #[.string ⟨#[]⟩, .int .u64 0, .int .i64 0, .string ⟨#[]⟩]) (.agg #[.string ⟨#[]⟩, .int .u64 0, .int .i64 0, .string ⟨#[]⟩])).run Try.prog V = .ok (.bool true) V := fun V => by
    simp [go_sem, Try.underlying35, Try.underlying33, Try.underlying9, Try.underlying31, Try.underlying3]
  have HA : Hid (∀ V : World, Calls Try.prog 13 #[nilIt] V fun e w' => e = .returned (.tuple #[.agg #[.string ⟨#[]⟩, .int .u64 0, .int .i64 0, .string ⟨#[]⟩], .bool false]) ∧ Below V.heap.size V w') := fun V => N.at' V
  go_enter Try.func7, Try.ntmps7
  go_wp2_with fail
  refine (awake16 F _).mono ?_
  rintro _ w1 ⟨rfl, hb1⟩
  have H1 : Hid (Below w.heap.size w w1 ∧ Box w1 w.heap.size 33 #[.string k.user, .int .u64 (k.seq : Int), .int .i64 k.kind]) := ⟨H0.out.1.trans (hb1.mono H0.out.1.size), H0.out.2.kept (hb1.block _ H0.out.2.lt)⟩
  clear hb1 H0
  go_wp2_with fail
  refine (N.first _).mono ?_
  rintro _ w2 ⟨rfl, hb2⟩
  have H2 : Hid (Below w.heap.size w w2 ∧ Box w2 w.heap.size 33 #[.string k.user, .int .u64 (k.seq : Int), .int .i64 k.kind]) := ⟨H1.out.1.trans (hb2.mono H1.out.1.size), H1.out.2.kept (hb2.block _ H1.out.2.lt)⟩
  clear hb2 H1
  go_wp2_with fail
  refine (N.last _).mono ?_
  rintro _ w3 ⟨rfl, hb3⟩
  have H3 : Hid (Below w.heap.size w w3 ∧ Box w3 w.heap.size 33 #[.string k.user, .int .u64 (k.seq : Int), .int .i64 k.kind]) := ⟨H2.out.1.trans (hb3.mono H2.out.1.size), H2.out.2.kept (hb3.block _ H2.out.2.lt)⟩
  clear hb3 H2
  have c0 : w3.cell? ⟨w.heap.size, 0, none⟩ = some (.string k.user) := H3.out.2.cell 0
  have c1 : w3.cell? ⟨w.heap.size, 1, none⟩ = some (.int .u64 (k.seq : Int)) := H3.out.2.cell 1
  have c2 : w3.cell? ⟨w.heap.size, 2, none⟩ = some (.int .i64 k.kind) := H3.out.2.cell 2
  go_wp2_with fail
  refine (N.seek k _).mono ?_
  rintro _ w4 ⟨rfl, hb4⟩
  have H4 : Hid (Below w.heap.size w w4) := H3.out.1.trans (hb4.mono H3.out.1.size)
  clear hb4 H3 c0 c1 c2
  go_wp2_with fail
  refine (N.next _).mono ?_
  rintro _ w5 ⟨rfl, hb5⟩
  have H5 : Hid (Below w.heap.size w w5) := H4.out.trans (hb5.mono H4.out.size)
  clear hb5 H4
  go_wp2_with fail
  refine (N.prev _).mono ?_
  rintro _ w6 ⟨rfl, hb6⟩
  have H6 : Hid (Below w.heap.size w w6) := H5.out.trans (hb6.mono H5.out.size)
  clear hb6 H5
  go_wp2_with fail
  refine (HA.out _).mono ?_
  rintro _ w7 ⟨rfl, hb7⟩
  have H7 : Hid (Below w.heap.size w w7) := H6.out.trans (hb7.mono H6.out.size)
  clear hb7 H6
  go_wp2
  go_ret
  exact ⟨ret1 rfl, H7.out.alloc H7.out.size _⟩
end Go.Proofs.Ytfijibengmgegaa
