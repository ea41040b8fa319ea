/- The contracts of version's small functions: newer, below, has, orderOf, isLevel, mayStand. -/
import Derived.Test.YtcdfgcjecmpjhaaV14Mem
namespace Go.Proofs.Ytcdfgcjecmpjhaa
open Go.RowKit
set_option linter.unusedVariables false
set_option linter.unusedSimpArgs false
abbrev TFi : TypeId := 76
set_option maxRecDepth 100000 in
set_option maxHeartbeats 1000000 in
theorem newer_any (f g : PF) (w : World) : Calls Try.prog 54 #[.agg #[.int .i64 f.level, .int .u64 (f.num : Int), .int .i64 f.size, .string f.small.user, .int .u64 (f.small.seq : Int), .int .i64 f.small.kind, .string f.large.user, .int .u64 (f.large.seq : Int), .int .i64 f.large.kind], .agg #[.int .i64 g.level, .int .u64 (g.num : Int), .int .i64 g.size, .string g.small.user, .int .u64 (g.small.seq : Int), .int .i64 g.small.kind, .string g.large.user, .int .u64 (g.large.seq : Int), .int .i64 g.large.kind]] w fun e w' => e = .returned (.bool (decide (g.num < f.num))) ∧ Below w.heap.size w w' := by
  have HW : Hid (Below w.heap.size w ((w.alloc (.cells (fA f) TFi)).alloc (.cells (fA g) TFi))) := ((Below.refl _ _).alloc (Nat.le_refl _) _).alloc (by simp) _
  go_enter Try.func54, Try.ntmps54
  go_wp2
  go_ret
  exact ⟨by simp, HW.out⟩
set_option maxRecDepth 100000 in
set_option maxHeartbeats 1000000 in
theorem below_any (f g : PF) (w : World) : Calls Try.prog 55 #[.agg #[.int .i64 f.level, .int .u64 (f.num : Int), .int .i64 f.size, .string f.small.user, .int .u64 (f.small.seq : Int), .int .i64 f.small.kind, .string f.large.user, .int .u64 (f.large.seq : Int), .int .i64 f.large.kind], .agg #[.int .i64 g.level, .int .u64 (g.num : Int), .int .i64 g.size, .string g.small.user, .int .u64 (g.small.seq : Int), .int .i64 g.small.kind, .string g.large.user, .int .u64 (g.large.seq : Int), .int .i64 g.large.kind]] w fun e w' => e = .returned (.bool (decide (apartF f g))) ∧ Below w.heap.size w w' := by
  have HW : Hid (Below w.heap.size w ((w.alloc (.cells (fA f) TFi)).alloc (.cells (fA g) TFi))) := ((Below.refl _ _).alloc (Nat.le_refl _) _).alloc (by simp) _
  go_enter Try.func55, Try.ntmps55
  go_wp2
  go_ret
  exact ⟨by simp [apartF, ul], HW.out⟩
/-- The order of a level, as a value. -/
def ordV (n : Nat) : Value := .func (.func (if n = 0 then 54 else 55)) #[] #[]
set_option maxRecDepth 100000 in
theorem orderOf_any (n : Nat) (w : World) : Calls Try.prog 42 #[.int .i64 (n : Int)] w fun e w' => e = .returned (ordV n) ∧ w = w' := by
  unfold ordV
  go_enter Try.func42, Try.ntmps42
  by_cases h : n = 0
  · subst h
    go_wp2
    go_ret
    exact ⟨ret1 rfl, rfl⟩
  · have hb : ((n : Int) == 0) = false := beq_eq_false_iff_ne.2 (by omega)
    rw [if_neg h]
    go_wp2
    go_ret
    exact ⟨ret1 rfl, rfl⟩
set_option maxRecDepth 100000 in
theorem isLevel_any (l : Int) (w : World) : Calls Try.prog 37 #[.int .i64 l] w fun e w' => e = .returned (.bool (decide (0 ≤ l ∧ l < 4))) ∧ w = w' := by
  go_enter Try.func37, Try.ntmps37
  by_cases h : 0 ≤ l
  · go_wp2
    go_ret
    exact ⟨ret1 (by simp [h]), rfl⟩
  · have hb : decide (0 ≤ l) = false := decide_eq_false h
    go_wp2
    go_ret
    exact ⟨ret1 rfl, rfl⟩
theorem le_iff (a b : ByteArray) : (Op.bytesLess a.toList b.toList = true ∨ a.toList = b.toList) ↔ ¬ ul b a := by
  constructor
  · rintro (h | h) k
    · exact ul_irr a (ul_trans h k)
    · unfold ul at k
      rw [h] at k
      exact ul_irr b k
  · intro h
    rcases ul_tri b a h with e | e
    · exact .inr (by rw [e])
    · exact .inl e
theorem leB_eq (a b : ByteArray) : (Op.bytesLess a.toList b.toList || a.toList == b.toList) = decide (¬ ul b a) := by
  rw [Bool.eq_iff_iff, Bool.or_eq_true, beq_iff_eq, le_iff, decide_eq_true_iff]
set_option maxRecDepth 100000 in
set_option maxHeartbeats 2000000 in
theorem has_any (f : PF) (s t : ByteArray) (w : World) : Calls Try.prog 49 #[.agg #[.int .i64 f.level, .int .u64 (f.num : Int), .int .i64 f.size, .string f.small.user, .int .u64 (f.small.seq : Int), .int .i64 f.small.kind, .string f.large.user, .int .u64 (f.large.seq : Int), .int .i64 f.large.kind], .string s, .string t] w fun e w' => e = .returned (.bool (hasU f s t)) ∧ Below w.heap.size w w' := by
  have HW : Hid (∀ q, Below w.heap.size w ((w.alloc (.cells (fA f) TFi)).drewN q)) := fun q => by
    have h : Below w.heap.size w (w.alloc (.cells (fA f) TFi)) := (Below.refl _ _).alloc (Nat.le_refl _) _
    exact ⟨h.os, h.tape, h.output, h.size, h.block⟩
  go_enter Try.func49, Try.ntmps49
  go_wp2_with fail
  go_quiet (fail)
  go_wp2_with fail
  all_goals simp only [leB_eq, le_iff] at *
  all_goals go_ret
  all_goals refine ⟨ret1 ?_, HW.out nq⟩
  all_goals simp [hasU, *]
end Go.Proofs.Ytcdfgcjecmpjhaa
