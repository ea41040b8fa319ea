/- The contracts of the three methods by which two keys are held against one another. -/
import Derived.Test.YtcdfgcjecmpjhaaCmp
namespace Go.Proofs.Ytcdfgcjecmpjhaa
open Go.RowKit

set_option maxRecDepth 100000 in
set_option maxHeartbeats 400000 in
theorem byUser_any (s t : ByteArray) (q r k l : Int) (w : World) : Calls Try.prog 69 #[.agg #[.string s, .int .u64 q, .int .i64 k, .string t, .int .u64 r, .int .i64 l]] w fun e w' => e = .returned (.int .i64 (scmp s.toList t.toList)) ∧ Below w.heap.size w w' := by
  go_enter Try.func69, Try.ntmps69
  go_wp2_with (go_at_call 79; refine (cmpS_any _ _ _).mono ?_; rintro e w1 ⟨rfl, rfl⟩)
  go_ret
  exact ⟨ret1 rfl, (Below.refl _ _).alloc (Nat.le_refl _) _⟩
set_option maxRecDepth 100000 in
set_option maxHeartbeats 400000 in
theorem bySeq_any (s t : ByteArray) (q r k l : Int) (w : World) : Calls Try.prog 70 #[.agg #[.string s, .int .u64 q, .int .i64 k, .string t, .int .u64 r, .int .i64 l]] w fun e w' => e = .returned (.int .i64 (icmp r q)) ∧ Below w.heap.size w w' := by
  go_enter Try.func70, Try.ntmps70
  go_wp2_with (go_at_call 80; refine (cmpU_any _ _ _).mono ?_; rintro e w1 ⟨rfl, rfl⟩)
  go_ret
  exact ⟨ret1 rfl, (Below.refl _ _).alloc (Nat.le_refl _) _⟩
set_option maxRecDepth 100000 in
set_option maxHeartbeats 400000 in
theorem byKind_any (s t : ByteArray) (q r k l : Int) (w : World) : Calls Try.prog 71 #[.agg #[.string s, .int .u64 q, .int .i64 k, .string t, .int .u64 r, .int .i64 l]] w fun e w' => e = .returned (.int .i64 (icmp l k)) ∧ Below w.heap.size w w' := by
  go_enter Try.func71, Try.ntmps71
  go_wp2_with (go_at_call 81; refine (cmpI_any _ _ _).mono ?_; rintro e w1 ⟨rfl, rfl⟩)
  go_ret
  exact ⟨ret1 rfl, (Below.refl _ _).alloc (Nat.le_refl _) _⟩
end Go.Proofs.Ytcdfgcjecmpjhaa
