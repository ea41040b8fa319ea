/- The contracts of the three methods by which two keys are held against one another. -/
import Derived.Test.YtfijibengmgegaaQa00
import Derived.LoopN
import Derived.Test.YtfijibengmgegaaChecked
namespace Go.Proofs.Ytfijibengmgegaa
open Go.RowKit

set_option maxRecDepth 100000 in
set_option maxHeartbeats 400000 in
theorem byUser_any (s t : ByteArray) (q r k l : Int) (w : World) : Calls Try.prog 44 #[.agg #[.string s, .int .u64 q, .int .i64 k, .string t, .int .u64 r, .int .i64 l]] w fun e w' => e = .returned (.int .i64 (scmp s.toList t.toList)) ∧ Below w.heap.size w w' := by
  go_enter Try.func44, Try.ntmps44
  go_wp2_with (go_at_call 51; refine (cmpS_any _ _ _).mono ?_; rintro e w1 ⟨rfl, rfl⟩)
  go_ret
  exact ⟨ret1 rfl, (Below.refl _ _).alloc (Nat.le_refl _) _⟩
set_option maxRecDepth 100000 in
set_option maxHeartbeats 400000 in
theorem bySeq_any (s t : ByteArray) (q r k l : Int) (w : World) : Calls Try.prog 45 #[.agg #[.string s, .int .u64 q, .int .i64 k, .string t, .int .u64 r, .int .i64 l]] w fun e w' => e = .returned (.int .i64 (icmp r q)) ∧ Below w.heap.size w w' := by
  go_enter Try.func45, Try.ntmps45
  go_wp2_with (go_at_call 52; refine (cmpU_any _ _ _).mono ?_; rintro e w1 ⟨rfl, rfl⟩)
  go_ret
  exact ⟨ret1 rfl, (Below.refl _ _).alloc (Nat.le_refl _) _⟩
set_option maxRecDepth 100000 in
set_option maxHeartbeats 400000 in
theorem byKind_any (s t : ByteArray) (q r k l : Int) (w : World) : Calls Try.prog 46 #[.agg #[.string s, .int .u64 q, .int .i64 k, .string t, .int .u64 r, .int .i64 l]] w fun e w' => e = .returned (.int .i64 (icmp l k)) ∧ Below w.heap.size w w' := by
  go_enter Try.func46, Try.ntmps46
  go_wp2_with (go_at_call 53; refine (cmpI_any _ _ _).mono ?_; rintro e w1 ⟨rfl, rfl⟩)
  go_ret
  exact ⟨ret1 rfl, (Below.refl _ _).alloc (Nat.le_refl _) _⟩
end Go.Proofs.Ytfijibengmgegaa
/- The contract of ikey.Compare: two keys held against one another, as a plain function tells it. -/
namespace Go.Proofs.Ytfijibengmgegaa
open Go.RowKit

def kcmp (s t : List UInt8) (q r k l : Int) : Int := if (scmp s t != 0) = true then scmp s t else if (icmp r q != 0) = true then icmp r q else icmp l k

theorem index3_0 (f : Array Value) (g h x y : Array Value) (W : World) (a b c : Nat) (x' : Array Value) : (Instr.index 85 (.agg #[.func (.func a) f x', .func (.func b) g x, .func (.func c) h y]) (.int .i64 0)).run Try.prog W = .ok (.func (.func a) f x') W := by
  simp [Instr.index, run_underlying Try.underlying85, asIntOf, go_sem]
theorem index3_1 (f : Array Value) (g h x y : Array Value) (W : World) (a b c : Nat) (x' : Array Value) : (Instr.index 85 (.agg #[.func (.func a) f x', .func (.func b) g x, .func (.func c) h y]) (.int .i64 1)).run Try.prog W = .ok (.func (.func b) g x) W := by
  simp [Instr.index, run_underlying Try.underlying85, asIntOf, go_sem]
theorem index3_2 (f : Array Value) (g h x y : Array Value) (W : World) (a b c : Nat) (x' : Array Value) : (Instr.index 85 (.agg #[.func (.func a) f x', .func (.func b) g x, .func (.func c) h y]) (.int .i64 2)).run Try.prog W = .ok (.func (.func c) h y) W := by
  simp [Instr.index, run_underlying Try.underlying85, asIntOf, go_sem]

set_option maxRecDepth 100000 in
set_option maxHeartbeats 1000000 in
theorem compare_any (s t : ByteArray) (q r k l : Int) (w : World) :
    Calls Try.prog 36 #[.agg #[.string s, .int .u64 q, .int .i64 k], .agg #[.string t, .int .u64 r, .int .i64 l]] w fun e w' => e = .returned (.int .i64 (kcmp s.toList t.toList q r k l)) ∧ Below w.heap.size w w' := by
  have hmf : ∀ (fn : Fn) (first cap : Array Value) (w : World), (Instr.makeFunc fn first cap).run Try.prog w = .ok (.func fn first cap) w := fun _ _ _ _ => rfl
  have hi0 := index3_0
  have hi1 := index3_1
  have hi2 := index3_2
  have hu := fun W => byUser_any s t q r k l W
  have hq := fun W => bySeq_any s t q r k l W
  have hk := fun W => byKind_any s t q r k l W
  have HE : Hid (kcmp s.toList t.toList q r k l = if (scmp s.toList t.toList != 0) = true then scmp s.toList t.toList else if (icmp r q != 0) = true then icmp r q else icmp l k) := rfl
  generalize scmp s.toList t.toList = c1 at hu HE
  generalize icmp r q = c2 at hq HE
  generalize icmp l k = c3 at hk HE
  by_cases h1 : (c1 != 0) = true
  · rw [if_pos h1] at HE
    go_enter Try.func36, Try.ntmps36
    go_wp2
    refine wp_loop_rounds 4 ?_
    rw [rounds_succ]
    go_wp2_with (first
      | (go_at_call 44; refine (hu _).mono ?_; rintro e w1 ⟨rfl, hb1⟩; have HB1 : Hid (Below w.heap.size w w1) := (((((Below.refl _ w).alloc (Nat.le_refl _) _).alloc (by simp) _).alloc (by simp; omega) _)).trans (hb1.mono (by simp; omega)); clear hb1))
    go_ret
    rw [HE.out]
    exact ⟨ret1 rfl, HB1.out⟩
  · rw [if_neg h1] at HE
    have h1' : (c1 != 0) = false := by simpa using h1
    by_cases h2 : (c2 != 0) = true
    · rw [if_pos h2] at HE
      go_enter Try.func36, Try.ntmps36
      go_wp2
      refine wp_loop_rounds 4 ?_
      rw [rounds_succ]
      go_wp2_with (first
        | (go_at_call 44; refine (hu _).mono ?_; rintro e w1 ⟨rfl, hb1⟩; have HB1 : Hid (Below w.heap.size w w1) := (((((Below.refl _ w).alloc (Nat.le_refl _) _).alloc (by simp) _).alloc (by simp; omega) _)).trans (hb1.mono (by simp; omega)); clear hb1))
      rw [rounds_succ]
      go_wp2_with (first
        | (go_at_call 45; refine (hq _).mono ?_; rintro e w2 ⟨rfl, hb2⟩))
      go_ret
      rw [HE.out]
      exact ⟨ret1 rfl, HB1.out.trans (hb2.mono HB1.out.size)⟩
    · rw [if_neg h2] at HE
      have h2' : (c2 != 0) = false := by simpa using h2
      by_cases h3 : (c3 != 0) = true
      · go_enter Try.func36, Try.ntmps36
        go_wp2
        refine wp_loop_rounds 4 ?_
        rw [rounds_succ]
        go_wp2_with (first
          | (go_at_call 44; refine (hu _).mono ?_; rintro e w1 ⟨rfl, hb1⟩; have HB1 : Hid (Below w.heap.size w w1) := (((((Below.refl _ w).alloc (Nat.le_refl _) _).alloc (by simp) _).alloc (by simp; omega) _)).trans (hb1.mono (by simp; omega)); clear hb1))
        rw [rounds_succ]
        go_wp2_with (first
          | (go_at_call 45; refine (hq _).mono ?_; rintro e w2 ⟨rfl, hb2⟩))
        rw [rounds_succ]
        go_wp2_with (first
          | (go_at_call 46; refine (hk _).mono ?_; rintro e w3 ⟨rfl, hb3⟩))
        go_ret
        rw [HE.out]
        exact ⟨ret1 rfl, (HB1.out.trans (hb2.mono HB1.out.size)).trans (hb3.mono (Nat.le_trans HB1.out.size hb2.size))⟩
      · have h3' : (c3 != 0) = false := by simpa using h3
        have HZ : Hid (c3 = 0) := by simpa [Hid] using h3'
        go_enter Try.func36, Try.ntmps36
        go_wp2
        refine wp_loop_rounds 4 ?_
        rw [rounds_succ]
        go_wp2_with (first
          | (go_at_call 44; refine (hu _).mono ?_; rintro e w1 ⟨rfl, hb1⟩; have HB1 : Hid (Below w.heap.size w w1) := (((((Below.refl _ w).alloc (Nat.le_refl _) _).alloc (by simp) _).alloc (by simp; omega) _)).trans (hb1.mono (by simp; omega)); clear hb1))
        rw [rounds_succ]
        go_wp2_with (first
          | (go_at_call 45; refine (hq _).mono ?_; rintro e w2 ⟨rfl, hb2⟩))
        rw [rounds_succ]
        go_wp2_with (first
          | (go_at_call 46; refine (hk _).mono ?_; rintro e w3 ⟨rfl, hb3⟩))
        rw [rounds_succ]
        go_wp2
        go_ret
        rw [HE.out, HZ.out]
        exact ⟨ret1 rfl, (HB1.out.trans (hb2.mono HB1.out.size)).trans (hb3.mono (Nat.le_trans HB1.out.size hb2.size))⟩
end Go.Proofs.Ytfijibengmgegaa
/- The contracts of ikey.Check and of the document's own Check: what is wrong with a key, told by a plain function. -/
namespace Go.Proofs.Ytfijibengmgegaa
open Go.RowKit

/-- What is wrong with a key whose user has n bytes. -/
def chk (n q : Nat) (k : Int) : Nat := if 64 < n then 21 else if 72057594037927935 < q then 22 else if k = 0 ∨ k = 1 then 0 else 23

end Go.Proofs.Ytfijibengmgegaa
