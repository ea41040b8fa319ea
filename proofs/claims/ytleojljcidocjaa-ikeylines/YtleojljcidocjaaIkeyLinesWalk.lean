/- staddlelaw02.IkeyLines returns true, for every argument, and leaves memory as it was. -/
import Derived.Test.YtleojljcidocjaaAwake2
import Derived.Test.YtleojljcidocjaaLineFacts
import Derived.Test.YtleojljcidocjaaKeyEq
namespace Go.Proofs.Ytleojljcidocjaa
open Go.RowKit
set_option maxRecDepth 100000 in
set_option maxHeartbeats 2000000 in
theorem ikeyLines_at (s0 s1 s2 : ByteArray) (q0 k0 q1 k1 q2 k2 X Y Z : Int) (w : World) (hXc : X = -1 ∨ X = 0 ∨ X = 1) (E : Bool) (hEX : E = decide (X = 0)) (hE : ∀ W, (binOp .eql 25 (.agg #[.string s0, .int .u64 q0, .int .i64 k0]) (.agg #[.string s1, .int .u64 q1, .int .i64 k1])).run Try.prog W = .ok (.bool E) W)
    (hR1 : X ≤ 0 → Y ≤ 0 → Z ≤ 0) (hR2 : X ≤ 0 → Y < 0 → Z < 0)
    (hX : ∀ W, Calls Try.prog 16 #[.agg #[.string s0, .int .u64 q0, .int .i64 k0], .agg #[.string s1, .int .u64 q1, .int .i64 k1]] W fun e w' => e = .returned (.int .i64 X) ∧ Below W.heap.size W w')
    (hY : ∀ W, Calls Try.prog 16 #[.agg #[.string s1, .int .u64 q1, .int .i64 k1], .agg #[.string s2, .int .u64 q2, .int .i64 k2]] W fun e w' => e = .returned (.int .i64 Y) ∧ Below W.heap.size W w')
    (hZ : ∀ W, Calls Try.prog 16 #[.agg #[.string s0, .int .u64 q0, .int .i64 k0], .agg #[.string s2, .int .u64 q2, .int .i64 k2]] W fun e w' => e = .returned (.int .i64 Z) ∧ Below W.heap.size W w')
    (hA : ∀ W, Calls Try.prog 16 #[.agg #[.string s0, .int .u64 q0, .int .i64 k0], .agg #[.string s0, .int .u64 q0, .int .i64 k0]] W fun e w' => e = .returned (.int .i64 0) ∧ Below W.heap.size W w')
    (hN : ∀ W, Calls Try.prog 16 #[.agg #[.string s1, .int .u64 q1, .int .i64 k1], .agg #[.string s0, .int .u64 q0, .int .i64 k0]] W fun e w' => e = .returned (.int .i64 (-X)) ∧ Below W.heap.size W w') :
    Calls Try.prog 7 #[.agg #[.string s0, .int .u64 q0, .int .i64 k0], .agg #[.string s1, .int .u64 q1, .int .i64 k1], .agg #[.string s2, .int .u64 q2, .int .i64 k2]] w fun e w' => e = .returned (.bool true) ∧ Below w.heap.size w w' := by
  go_enter Try.func7, Try.ntmps7
  go_wp2_with fail
  refine (awake_any _).mono ?_
  rintro e v1 ⟨rfl, hb1⟩
  have HB1 : Hid (Below w.heap.size w v1) := (((((Below.refl _ w).alloc (Nat.le_refl _) _).alloc (by simp) _).alloc (by simp; omega) _)).trans (hb1.mono (by simp; omega))
  have A1 : Hid (Rec3 v1 w.heap.size (.string s0) (.int .u64 q0) (.int .i64 k0)) := (((Rec3.new w _ rfl _ _ _ _).alloc _).alloc _).below (Nat.le_refl _) hb1
  have B1 : Hid (Rec3 v1 (w.heap.size + 1) (.string s1) (.int .u64 q1) (.int .i64 k1)) := ((Rec3.new _ _ (by simp) _ _ _ _).alloc _).below (Nat.le_refl _) hb1
  have C1 : Hid (Rec3 v1 (w.heap.size + 1 + 1) (.string s2) (.int .u64 q2) (.int .i64 k2)) := (Rec3.new _ _ (by simp) _ _ _ _).below (Nat.le_refl _) hb1
  clear hb1
  obtain ⟨p0, p1, p2, _, _, _, _⟩ := A1.out
  obtain ⟨r0, r1, r2, _, _, _, _⟩ := B1.out
  obtain ⟨t0, t1, t2, _, _, _, _⟩ := C1.out
  go_wp2_with fail
  refine (hX _).mono ?_
  rintro e v2 ⟨rfl, hb2⟩
  have HB2 : Hid (Below w.heap.size w v2) := HB1.out.trans (hb2.mono HB1.out.size)
  have A2 : Hid (Rec3 v2 w.heap.size (.string s0) (.int .u64 q0) (.int .i64 k0)) := A1.out.below (Nat.le_refl _) hb2
  have B2 : Hid (Rec3 v2 (w.heap.size + 1) (.string s1) (.int .u64 q1) (.int .i64 k1)) := B1.out.below (Nat.le_refl _) hb2
  have C2 : Hid (Rec3 v2 (w.heap.size + 1 + 1) (.string s2) (.int .u64 q2) (.int .i64 k2)) := C1.out.below (Nat.le_refl _) hb2
  clear hb2 HB1 A1 B1 C1 p0 p1 p2 r0 r1 r2 t0 t1 t2
  obtain ⟨p0, p1, p2, _, _, _, _⟩ := A2.out
  obtain ⟨r0, r1, r2, _, _, _, _⟩ := B2.out
  obtain ⟨t0, t1, t2, _, _, _, _⟩ := C2.out
  go_wp2_with fail
  refine (hY _).mono ?_
  rintro e v3 ⟨rfl, hb3⟩
  have HB3 : Hid (Below w.heap.size w v3) := HB2.out.trans (hb3.mono HB2.out.size)
  have A3 : Hid (Rec3 v3 w.heap.size (.string s0) (.int .u64 q0) (.int .i64 k0)) := A2.out.below (Nat.le_refl _) hb3
  have B3 : Hid (Rec3 v3 (w.heap.size + 1) (.string s1) (.int .u64 q1) (.int .i64 k1)) := B2.out.below (Nat.le_refl _) hb3
  have C3 : Hid (Rec3 v3 (w.heap.size + 1 + 1) (.string s2) (.int .u64 q2) (.int .i64 k2)) := C2.out.below (Nat.le_refl _) hb3
  clear hb3 HB2 A2 B2 C2 p0 p1 p2 r0 r1 r2 t0 t1 t2
  obtain ⟨p0, p1, p2, _, _, _, _⟩ := A3.out
  obtain ⟨r0, r1, r2, _, _, _, _⟩ := B3.out
  obtain ⟨t0, t1, t2, _, _, _, _⟩ := C3.out
  go_wp2_with fail
  refine (hZ _).mono ?_
  rintro e v4 ⟨rfl, hb4⟩
  have HB4 : Hid (Below w.heap.size w v4) := HB3.out.trans (hb4.mono HB3.out.size)
  have A4 : Hid (Rec3 v4 w.heap.size (.string s0) (.int .u64 q0) (.int .i64 k0)) := A3.out.below (Nat.le_refl _) hb4
  have B4 : Hid (Rec3 v4 (w.heap.size + 1) (.string s1) (.int .u64 q1) (.int .i64 k1)) := B3.out.below (Nat.le_refl _) hb4
  have C4 : Hid (Rec3 v4 (w.heap.size + 1 + 1) (.string s2) (.int .u64 q2) (.int .i64 k2)) := C3.out.below (Nat.le_refl _) hb4
  clear hb4 HB3 A3 B3 C3 p0 p1 p2 r0 r1 r2 t0 t1 t2
  obtain ⟨p0, p1, p2, _, _, _, _⟩ := A4.out
  obtain ⟨r0, r1, r2, _, _, _, _⟩ := B4.out
  obtain ⟨t0, t1, t2, _, _, _, _⟩ := C4.out
  go_wp2_with fail
  refine (hA _).mono ?_
  rintro e v5 ⟨rfl, hb5⟩
  have HB5 : Hid (Below w.heap.size w v5) := HB4.out.trans (hb5.mono HB4.out.size)
  have A5 : Hid (Rec3 v5 w.heap.size (.string s0) (.int .u64 q0) (.int .i64 k0)) := A4.out.below (Nat.le_refl _) hb5
  have B5 : Hid (Rec3 v5 (w.heap.size + 1) (.string s1) (.int .u64 q1) (.int .i64 k1)) := B4.out.below (Nat.le_refl _) hb5
  have C5 : Hid (Rec3 v5 (w.heap.size + 1 + 1) (.string s2) (.int .u64 q2) (.int .i64 k2)) := C4.out.below (Nat.le_refl _) hb5
  clear hb5 HB4 A4 B4 C4 p0 p1 p2 r0 r1 r2 t0 t1 t2
  obtain ⟨p0, p1, p2, _, _, _, _⟩ := A5.out
  obtain ⟨r0, r1, r2, _, _, _, _⟩ := B5.out
  obtain ⟨t0, t1, t2, _, _, _, _⟩ := C5.out
  go_wp2_with fail
  refine (hN _).mono ?_
  rintro e v6 ⟨rfl, hb6⟩
  have HB6 : Hid (Below w.heap.size w v6) := HB5.out.trans (hb6.mono HB5.out.size)
  have A6 : Hid (Rec3 v6 w.heap.size (.string s0) (.int .u64 q0) (.int .i64 k0)) := A5.out.below (Nat.le_refl _) hb6
  have B6 : Hid (Rec3 v6 (w.heap.size + 1) (.string s1) (.int .u64 q1) (.int .i64 k1)) := B5.out.below (Nat.le_refl _) hb6
  have C6 : Hid (Rec3 v6 (w.heap.size + 1 + 1) (.string s2) (.int .u64 q2) (.int .i64 k2)) := C5.out.below (Nat.le_refl _) hb6
  clear hb6 HB5 A5 B5 C5 p0 p1 p2 r0 r1 r2 t0 t1 t2
  obtain ⟨p0, p1, p2, _, _, _, _⟩ := A6.out
  obtain ⟨r0, r1, r2, _, _, _, _⟩ := B6.out
  obtain ⟨t0, t1, t2, _, _, _, _⟩ := C6.out
  rcases hXc with rfl | rfl | rfl
  · obtain rfl : E = false := hEX
    by_cases hy : Y < 0
    · have hz := hR2 (by omega) hy
      clear hR1 hR2
      go_wp2_with fail
      go_ret
      exact ⟨ret1 rfl, HB6.out⟩
    · by_cases hy0 : Y ≤ 0
      · have hz := hR1 (by omega) hy0
        clear hR1 hR2
        go_wp2_with fail
        go_ret
        exact ⟨ret1 rfl, HB6.out⟩
      · clear hR1 hR2
        go_wp2_with fail
        go_ret
        exact ⟨ret1 rfl, HB6.out⟩
  · obtain rfl : E = true := hEX
    by_cases hy : Y < 0
    · have hz := hR2 (by omega) hy
      clear hR1 hR2
      go_wp2_with fail
      go_ret
      exact ⟨ret1 rfl, HB6.out⟩
    · by_cases hy0 : Y ≤ 0
      · have hz := hR1 (by omega) hy0
        clear hR1 hR2
        go_wp2_with fail
        go_ret
        exact ⟨ret1 rfl, HB6.out⟩
      · clear hR1 hR2
        go_wp2_with fail
        go_ret
        exact ⟨ret1 rfl, HB6.out⟩
  · obtain rfl : E = false := hEX
    clear hR1 hR2
    go_wp2_with fail
    go_ret
    exact ⟨ret1 rfl, HB6.out⟩

theorem ikeyLines_walk (s0 : ByteArray) (q0 k0 : Int) (s1 : ByteArray) (q1 k1 : Int) (s2 : ByteArray) (q2 k2 : Int) (w : World) (_e0 : s0.size ≤ 140737488351232) (_x0 : (Lit.int .u64 q0).wf = true) (_y0 : (Lit.int .i64 k0).wf = true) (_e1 : s1.size ≤ 140737488351232) (_x1 : (Lit.int .u64 q1).wf = true) (_y1 : (Lit.int .i64 k1).wf = true) (_e2 : s2.size ≤ 140737488351232) (_x2 : (Lit.int .u64 q2).wf = true) (_y2 : (Lit.int .i64 k2).wf = true) :
    Calls Try.prog 7 #[.agg #[.string s0, .int .u64 q0, .int .i64 k0], .agg #[.string s1, .int .u64 q1, .int .i64 k1], .agg #[.string s2, .int .u64 q2, .int .i64 k2]] w fun e w' => e = .returned (.bool true) ∧ Below w.heap.size w w' := by
  obtain ⟨r1, r2⟩ := kcmp_row s0.toList s1.toList s2.toList q0 q1 q2 k0 k1 k2
  refine ikeyLines_at s0 s1 s2 q0 k0 q1 k1 q2 k2 (kcmp s0.toList s1.toList q0 q1 k0 k1) (kcmp s1.toList s2.toList q1 q2 k1 k2) (kcmp s0.toList s2.toList q0 q2 k0 k2) w (kcmp_bound _ _ _ _ _ _) (keyEq s0 s1 q0 q1 k0 k1) ?_ (fun W => run_eql_key _ _ _ _ _ _ W) r1 r2
    (fun W => compare_any _ _ _ _ _ _ W) (fun W => compare_any _ _ _ _ _ _ W) (fun W => compare_any _ _ _ _ _ _ W) (fun W => ?_) (fun W => ?_)
  · have h := kcmp_zero s0.toList s1.toList q0 q1 k0 k1
    by_cases h0 : kcmp s0.toList s1.toList q0 q1 k0 k1 = 0
    · obtain ⟨h1, h2, h3⟩ := h.1 h0
      rw [decide_eq_true h0]
      simp [keyEq, h1, h2, h3]
    · rw [decide_eq_false h0]
      by_cases h1 : keyEq s0 s1 q0 q1 k0 k1 = true
      · exfalso
        simp [keyEq] at h1
        exact h0 (h.2 ⟨h1.1, h1.2.1, h1.2.2⟩)
      · simpa using h1
  · have := compare_any s0 s0 q0 q0 k0 k0 W
    rwa [kcmp_self] at this
  · have := compare_any s1 s0 q1 q0 k1 k0 W
    rwa [kcmp_turn s0.toList s1.toList q0 q1 k0 k1] at this
end Go.Proofs.Ytleojljcidocjaa
