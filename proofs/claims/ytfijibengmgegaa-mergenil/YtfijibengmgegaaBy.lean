/- The contracts of the three methods by which two keys are held against one another. -/
import Derived.Test.YtfijibengmgegaaCmp
namespace Go.Proofs.Ytfijibengmgegaa
open Go.RowKit

set_option maxRecDepth 100000 in
set_option maxHeartbeats 400000 in
theorem byUser_any (s t : ByteArray) (q r k l : Int) (w : World) : Calls Try.prog 44 #[.agg #[.string s, .int .u64 q, .int .i64 k, .string t, .int .u64 r, .int .i64 l]] w fun e w' => e = .returned (.int .i64 (scmp s.toList t.toList)) ∧ Below w.heap.size w w' := by
  go_enter Try.func44, Try.ntmps44
  go_wp2_with (go_at_call 51; refine (cmpS_any _ _ _).mono ?_; rintro e w1 ⟨rfl, rfl⟩)
  go_ret
  exact ⟨ret1 rfl, (Below.refl _ _).alloc (Nat.le_refl _) _⟩
set_option maxRecDepth 100000 in
set_option maxHeartbeats 400000 in
theorem bySeq_any (s t : ByteArray) (q r k l : Int) (w : World) : Calls Try.prog 45 #[.agg #[.string s, .int .u64 q, .int .i64 k, .string t, .int .u64 r, .int .i64 l]] w fun e w' => e = .returned (.int .i64 (icmp r q)) ∧ Below w.heap.size w w' := by
  go_enter Try.func45, Try.ntmps45
  go_wp2_with (go_at_call 52; refine (cmpU_any _ _ _).mono ?_; rintro e w1 ⟨rfl, rfl⟩)
  go_ret
  exact ⟨ret1 rfl, (Below.refl _ _).alloc (Nat.le_refl _) _⟩
set_option maxRecDepth 100000 in
set_option maxHeartbeats 400000 in
theorem byKind_any (s t : ByteArray) (q r k l : Int) (w : World) : Calls Try.prog 46 #[.agg #[.string s, .int .u64 q, .int .i64 k, .string t, .int .u64 r, .int .i64 l]] w fun e w' => e = .returned (.int .i64 (icmp l k)) ∧ Below w.heap.size w w' := by
  go_enter Try.func46, Try.ntmps46
  go_wp2_with (go_at_call 53; refine (cmpI_any _ _ _).mono ?_; rintro e w1 ⟨rfl, rfl⟩)
  go_ret
  exact ⟨ret1 rfl, (Below.refl _ _).alloc (Nat.le_refl _) _⟩
end Go.Proofs.Ytfijibengmgegaa
