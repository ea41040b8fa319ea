/- The contracts of the document's own reg, cell and good. -/
import Derived.Test.YtehkcgjiimfdjaaPbMem
namespace Go.Proofs.Ytehkcgjiimfdjaa
open Go.RowKit
set_option maxRecDepth 100000 in
theorem rreg_any (n : Int) (w : World) : Calls Try.prog 30 #[.int .i64 n] w fun e w' => e = .returned (.bool (isReg n)) ∧ w' = w := by
  unfold isReg
  by_cases h0 : 0 ≤ n <;> by_cases h1 : n < 4
  all_goals
    go_enter Try.func30, Try.ntmps30
    go_wp2
    all_goals
      go_returns
      exact ⟨by simp [*], rfl⟩
set_option maxRecDepth 100000 in
theorem rcell_any (n : Int) (w : World) : Calls Try.prog 31 #[.int .i64 n] w fun e w' => e = .returned (.bool (isSh n)) ∧ w' = w := by
  unfold isSh
  by_cases h0 : 0 ≤ n <;> by_cases h1 : n < 16
  all_goals
    go_enter Try.func31, Try.ntmps31
    go_wp2
    all_goals
      go_returns
      exact ⟨by simp [*], rfl⟩
set_option maxRecDepth 100000 in
set_option maxHeartbeats 4000000 in
theorem rgood_any (xo xa xb xc : Int) (n : Nat) (w : World) : Calls Try.prog 18 #[.agg #[.int .i64 xo, .int .i64 xa, .int .i64 xb, .int .i64 xc], .int .i64 (n : Int)] w fun e w' => e = .returned (.bool (insOk ⟨xo, xa, xb, xc⟩ n)) ∧ Below w.heap.size w w' := by
  obtain ⟨V, HV⟩ : ∃ V, Hid (V = insOk ⟨xo, xa, xb, xc⟩ n) := ⟨_, rfl⟩
  rw [← HV.out]
  have hBw : Below w.heap.size w (w.alloc (.cells #[.int .i64 xo, .int .i64 xa, .int .i64 xb, .int .i64 xc] 37)) := (Below.refl _ _).alloc (Nat.le_refl _) _
  go_enter Try.func18, Try.ntmps18
  go_wp2_with fail
  refine (rreg_any xa _).mono ?_
  rintro e w1 ⟨rfl, rfl⟩
  go_wp2_with fail
  refine (rreg_any xb _).mono ?_
  rintro e w2 ⟨rfl, rfl⟩
  go_wp2_with fail
  refine (rreg_any xc _).mono ?_
  rintro e w3 ⟨rfl, rfl⟩
  go_wp2_with fail
  refine (rcell_any xa _).mono ?_
  rintro e w4 ⟨rfl, rfl⟩
  go_wp2_with fail
  refine (rcell_any xb _).mono ?_
  rintro e w5 ⟨rfl, rfl⟩
  by_cases o1 : xo = 1
  · subst o1
    cases ha : isReg xa <;> cases hq : isSh xb
    all_goals
      go_wp2
      all_goals
        go_returns
        exact ⟨by rw [HV.out]; simp [insOk, *], hBw⟩
  by_cases o2 : xo = 2
  · subst o2
    cases hp : isSh xa <;> cases hb : isReg xb
    all_goals
      go_wp2
      all_goals
        go_returns
        exact ⟨by rw [HV.out]; simp [insOk, *], hBw⟩
  by_cases o3 : xo = 3
  · subst o3
    cases hp : isSh xa <;> cases hb : isReg xb <;> cases hc : isReg xc
    all_goals
      go_wp2
      all_goals
        go_returns
        exact ⟨by rw [HV.out]; simp [insOk, *], hBw⟩
  by_cases o4 : xo = 4
  · subst o4
    cases ha : isReg xa
    all_goals
      go_wp2
      all_goals
        go_returns
        exact ⟨by rw [HV.out]; simp [insOk, *], hBw⟩
  by_cases o5 : xo = 5
  · subst o5
    cases ha : isReg xa
    all_goals
      go_wp2
      all_goals
        go_returns
        exact ⟨by rw [HV.out]; simp [insOk, *], hBw⟩
  by_cases o13 : xo = 13
  · subst o13
    cases ha : isReg xa
    all_goals
      go_wp2
      all_goals
        go_returns
        exact ⟨by rw [HV.out]; simp [insOk, *], hBw⟩
  by_cases o6 : xo = 6
  · subst o6
    cases ha : isReg xa <;> by_cases hn0 : 0 ≤ xb <;> by_cases hn1 : xb ≤ (n : Int)
    all_goals first | (exfalso; omega) | skip
    all_goals
      go_wp2
      all_goals
        go_returns
        exact ⟨by rw [HV.out]; simp [insOk, *], hBw⟩
  by_cases o7 : xo = 7
  · subst o7
    by_cases hn0 : 0 ≤ xb <;> by_cases hn1 : xb ≤ (n : Int)
    all_goals first | (exfalso; omega) | skip
    all_goals
      go_wp2
      all_goals
        go_returns
        exact ⟨by rw [HV.out]; simp [insOk, *], hBw⟩
  by_cases o8 : xo = 8
  · subst o8
    cases hp : isSh xa
    all_goals
      go_wp2
      all_goals
        go_returns
        exact ⟨by rw [HV.out]; simp [insOk, *], hBw⟩
  by_cases o9 : xo = 9
  · subst o9
    cases hp : isSh xa
    all_goals
      go_wp2
      all_goals
        go_returns
        exact ⟨by rw [HV.out]; simp [insOk, *], hBw⟩
  by_cases o11 : xo = 11
  · subst o11
    cases hp : isSh xa
    all_goals
      go_wp2
      all_goals
        go_returns
        exact ⟨by rw [HV.out]; simp [insOk, *], hBw⟩
  by_cases o12 : xo = 12
  · subst o12
    cases hp : isSh xa
    all_goals
      go_wp2
      all_goals
        go_returns
        exact ⟨by rw [HV.out]; simp [insOk, *], hBw⟩
  by_cases o10 : xo = 10
  · subst o10
    cases hp : isSh xa <;> cases hq : isSh xb
    all_goals
      go_wp2
      all_goals
        go_returns
        exact ⟨by rw [HV.out]; simp [insOk, *], hBw⟩
  by_cases o14 : xo = 14
  · subst o14
    all_goals
      go_wp2
      all_goals
        go_returns
        exact ⟨by rw [HV.out]; simp [insOk, *], hBw⟩
  go_wp2
  all_goals
    go_returns
    exact ⟨by rw [HV.out]; simp [insOk, *], hBw⟩
end Go.Proofs.Ytehkcgjiimfdjaa
