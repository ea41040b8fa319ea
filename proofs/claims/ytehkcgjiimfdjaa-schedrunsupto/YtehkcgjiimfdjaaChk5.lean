/- The contracts of sched's checks. -/
import Derived.Test.YtehkcgjiimfdjaaSMem
namespace Go.Proofs.Ytehkcgjiimfdjaa
open Go.RowKit
set_option maxRecDepth 100000 in
theorem isReg_any (n : Int) (w : World) : Calls Try.prog 39 #[.int .i64 n] w fun e w' => e = .returned (.bool (isReg n)) ∧ w' = w := by
  unfold isReg
  by_cases h : 0 ≤ n
  · go_enter Try.func39, Try.ntmps39
    go_wp2
    go_ret
    exact ⟨ret1 (by simp; try omega), rfl⟩
  · go_enter Try.func39, Try.ntmps39
    go_wp2
    go_ret
    exact ⟨ret1 (by simp; try omega), rfl⟩
set_option maxRecDepth 100000 in
theorem isSh_any (n : Int) (w : World) : Calls Try.prog 40 #[.int .i64 n] w fun e w' => e = .returned (.bool (isSh n)) ∧ w' = w := by
  unfold isSh
  by_cases h : 0 ≤ n
  · go_enter Try.func40, Try.ntmps40
    go_wp2
    go_ret
    exact ⟨ret1 (by simp; try omega), rfl⟩
  · go_enter Try.func40, Try.ntmps40
    go_wp2
    go_ret
    exact ⟨ret1 (by simp; try omega), rfl⟩
abbrev insV (x : Ins) : Value := .agg #[.int .i64 x.op, .int .i64 x.a, .int .i64 x.b, .int .i64 x.c]
abbrev insW (w : World) (x : Ins) : World := w.alloc (.cells #[.int .i64 x.op, .int .i64 x.a, .int .i64 x.b, .int .i64 x.c] 37)
set_option maxRecDepth 100000 in
theorem ins_1 (x : Ins) (many : Nat) (w : World) (h : x.op = 1) : Calls Try.prog 34 #[insV x, .int .i64 (many : Int)] w fun e w' => e = .returned (.bool (insOk x many)) ∧ w' = insW w x := by
  obtain ⟨o, a, b, c⟩ := x
  simp only at h
  subst h
  have e : insOk ⟨1, a, b, c⟩ many = (isReg a && isSh b) := by simp [insOk]
  rw [e]
  cases h0 : isReg a
  · go_enter Try.func34, Try.ntmps34
    go_wp2_with fail
    refine (isReg_any _ _).mono ?_
    rintro _ _ ⟨rfl, rfl⟩
    rw [h0]
    go_wp2
    go_ret
    exact ⟨rfl, rfl⟩
  · cases h1 : isSh b
    · go_enter Try.func34, Try.ntmps34
      go_wp2_with fail
      refine (isReg_any _ _).mono ?_
      rintro _ _ ⟨rfl, rfl⟩
      rw [h0]
      go_wp2_with fail
      refine (isSh_any _ _).mono ?_
      rintro _ _ ⟨rfl, rfl⟩
      rw [h1]
      go_wp2
      go_ret
      exact ⟨rfl, rfl⟩
    · go_enter Try.func34, Try.ntmps34
      go_wp2_with fail
      refine (isReg_any _ _).mono ?_
      rintro _ _ ⟨rfl, rfl⟩
      rw [h0]
      go_wp2_with fail
      refine (isSh_any _ _).mono ?_
      rintro _ _ ⟨rfl, rfl⟩
      rw [h1]
      go_wp2
      go_ret
      exact ⟨rfl, rfl⟩
set_option maxRecDepth 100000 in
theorem ins_2 (x : Ins) (many : Nat) (w : World) (h : x.op = 2) : Calls Try.prog 34 #[insV x, .int .i64 (many : Int)] w fun e w' => e = .returned (.bool (insOk x many)) ∧ w' = insW w x := by
  obtain ⟨o, a, b, c⟩ := x
  simp only at h
  subst h
  have e : insOk ⟨2, a, b, c⟩ many = (isSh a && isReg b) := by simp [insOk]
  rw [e]
  cases h0 : isSh a
  · go_enter Try.func34, Try.ntmps34
    go_wp2_with fail
    refine (isSh_any _ _).mono ?_
    rintro _ _ ⟨rfl, rfl⟩
    rw [h0]
    go_wp2
    go_ret
    exact ⟨rfl, rfl⟩
  · cases h1 : isReg b
    · go_enter Try.func34, Try.ntmps34
      go_wp2_with fail
      refine (isSh_any _ _).mono ?_
      rintro _ _ ⟨rfl, rfl⟩
      rw [h0]
      go_wp2_with fail
      refine (isReg_any _ _).mono ?_
      rintro _ _ ⟨rfl, rfl⟩
      rw [h1]
      go_wp2
      go_ret
      exact ⟨rfl, rfl⟩
    · go_enter Try.func34, Try.ntmps34
      go_wp2_with fail
      refine (isSh_any _ _).mono ?_
      rintro _ _ ⟨rfl, rfl⟩
      rw [h0]
      go_wp2_with fail
      refine (isReg_any _ _).mono ?_
      rintro _ _ ⟨rfl, rfl⟩
      rw [h1]
      go_wp2
      go_ret
      exact ⟨rfl, rfl⟩
set_option maxRecDepth 100000 in
theorem ins_3 (x : Ins) (many : Nat) (w : World) (h : x.op = 3) : Calls Try.prog 34 #[insV x, .int .i64 (many : Int)] w fun e w' => e = .returned (.bool (insOk x many)) ∧ w' = insW w x := by
  obtain ⟨o, a, b, c⟩ := x
  simp only at h
  subst h
  have e : insOk ⟨3, a, b, c⟩ many = (isSh a && (isReg b && isReg c)) := by simp [insOk]
  rw [e]
  cases h0 : isSh a
  · go_enter Try.func34, Try.ntmps34
    go_wp2_with fail
    refine (isSh_any _ _).mono ?_
    rintro _ _ ⟨rfl, rfl⟩
    rw [h0]
    go_wp2
    go_ret
    exact ⟨rfl, rfl⟩
  · cases h1 : isReg b
    · go_enter Try.func34, Try.ntmps34
      go_wp2_with fail
      refine (isSh_any _ _).mono ?_
      rintro _ _ ⟨rfl, rfl⟩
      rw [h0]
      go_wp2_with fail
      refine (isReg_any _ _).mono ?_
      rintro _ _ ⟨rfl, rfl⟩
      rw [h1]
      go_wp2
      go_ret
      exact ⟨rfl, rfl⟩
    · cases h2 : isReg c
      · go_enter Try.func34, Try.ntmps34
        go_wp2_with fail
        refine (isSh_any _ _).mono ?_
        rintro _ _ ⟨rfl, rfl⟩
        rw [h0]
        go_wp2_with fail
        refine (isReg_any _ _).mono ?_
        rintro _ _ ⟨rfl, rfl⟩
        rw [h1]
        go_wp2_with fail
        refine (isReg_any _ _).mono ?_
        rintro _ _ ⟨rfl, rfl⟩
        rw [h2]
        go_wp2
        go_ret
        exact ⟨rfl, rfl⟩
      · go_enter Try.func34, Try.ntmps34
        go_wp2_with fail
        refine (isSh_any _ _).mono ?_
        rintro _ _ ⟨rfl, rfl⟩
        rw [h0]
        go_wp2_with fail
        refine (isReg_any _ _).mono ?_
        rintro _ _ ⟨rfl, rfl⟩
        rw [h1]
        go_wp2_with fail
        refine (isReg_any _ _).mono ?_
        rintro _ _ ⟨rfl, rfl⟩
        rw [h2]
        go_wp2
        go_ret
        exact ⟨rfl, rfl⟩
set_option maxRecDepth 100000 in
theorem ins_4 (x : Ins) (many : Nat) (w : World) (h : x.op = 4) : Calls Try.prog 34 #[insV x, .int .i64 (many : Int)] w fun e w' => e = .returned (.bool (insOk x many)) ∧ w' = insW w x := by
  obtain ⟨o, a, b, c⟩ := x
  simp only at h
  subst h
  have e : insOk ⟨4, a, b, c⟩ many = isReg a := by simp [insOk]
  rw [e]
  cases h0 : isReg a
  · go_enter Try.func34, Try.ntmps34
    go_wp2_with fail
    refine (isReg_any _ _).mono ?_
    rintro _ _ ⟨rfl, rfl⟩
    rw [h0]
    go_wp2
    go_ret
    exact ⟨rfl, rfl⟩
  · go_enter Try.func34, Try.ntmps34
    go_wp2_with fail
    refine (isReg_any _ _).mono ?_
    rintro _ _ ⟨rfl, rfl⟩
    rw [h0]
    go_wp2
    go_ret
    exact ⟨rfl, rfl⟩
set_option maxRecDepth 100000 in
theorem ins_5 (x : Ins) (many : Nat) (w : World) (h : x.op = 5) : Calls Try.prog 34 #[insV x, .int .i64 (many : Int)] w fun e w' => e = .returned (.bool (insOk x many)) ∧ w' = insW w x := by
  obtain ⟨o, a, b, c⟩ := x
  simp only at h
  subst h
  have e : insOk ⟨5, a, b, c⟩ many = isReg a := by simp [insOk]
  rw [e]
  cases h0 : isReg a
  · go_enter Try.func34, Try.ntmps34
    go_wp2_with fail
    refine (isReg_any _ _).mono ?_
    rintro _ _ ⟨rfl, rfl⟩
    rw [h0]
    go_wp2
    go_ret
    exact ⟨rfl, rfl⟩
  · go_enter Try.func34, Try.ntmps34
    go_wp2_with fail
    refine (isReg_any _ _).mono ?_
    rintro _ _ ⟨rfl, rfl⟩
    rw [h0]
    go_wp2
    go_ret
    exact ⟨rfl, rfl⟩
set_option maxRecDepth 100000 in
theorem ins_6 (x : Ins) (many : Nat) (w : World) (h : x.op = 6) : Calls Try.prog 34 #[insV x, .int .i64 (many : Int)] w fun e w' => e = .returned (.bool (insOk x many)) ∧ w' = insW w x := by
  obtain ⟨o, a, b, c⟩ := x
  simp only at h
  subst h
  have e : insOk ⟨6, a, b, c⟩ many = (isReg a && (decide (0 ≤ b) && decide (b ≤ (many : Int)))) := by simp [insOk]
  rw [e]
  cases h0 : isReg a
  · go_enter Try.func34, Try.ntmps34
    go_wp2_with fail
    refine (isReg_any _ _).mono ?_
    rintro _ _ ⟨rfl, rfl⟩
    rw [h0]
    go_wp2
    go_ret
    exact ⟨rfl, rfl⟩
  · by_cases hb : 0 ≤ b
    · go_enter Try.func34, Try.ntmps34
      go_wp2_with fail
      refine (isReg_any _ _).mono ?_
      rintro _ _ ⟨rfl, rfl⟩
      rw [h0]
      go_wp2
      go_ret
      exact ⟨ret1 (by simp; try omega), rfl⟩
    · go_enter Try.func34, Try.ntmps34
      go_wp2_with fail
      refine (isReg_any _ _).mono ?_
      rintro _ _ ⟨rfl, rfl⟩
      rw [h0]
      go_wp2
      go_ret
      exact ⟨ret1 (by simp; try omega), rfl⟩
set_option maxRecDepth 100000 in
theorem ins_7 (x : Ins) (many : Nat) (w : World) (h : x.op = 7) : Calls Try.prog 34 #[insV x, .int .i64 (many : Int)] w fun e w' => e = .returned (.bool (insOk x many)) ∧ w' = insW w x := by
  obtain ⟨o, a, b, c⟩ := x
  simp only at h
  subst h
  have e : insOk ⟨7, a, b, c⟩ many = (decide (0 ≤ b) && decide (b ≤ (many : Int))) := by simp [insOk]
  rw [e]
  by_cases hb : 0 ≤ b
  · go_enter Try.func34, Try.ntmps34
    go_wp2
    go_ret
    exact ⟨ret1 (by simp; try omega), rfl⟩
  · go_enter Try.func34, Try.ntmps34
    go_wp2
    go_ret
    exact ⟨ret1 (by simp; try omega), rfl⟩
set_option maxRecDepth 100000 in
theorem ins_8 (x : Ins) (many : Nat) (w : World) (h : x.op = 8) : Calls Try.prog 34 #[insV x, .int .i64 (many : Int)] w fun e w' => e = .returned (.bool (insOk x many)) ∧ w' = insW w x := by
  obtain ⟨o, a, b, c⟩ := x
  simp only at h
  subst h
  have e : insOk ⟨8, a, b, c⟩ many = isSh a := by simp [insOk]
  rw [e]
  cases h0 : isSh a
  · go_enter Try.func34, Try.ntmps34
    go_wp2_with fail
    refine (isSh_any _ _).mono ?_
    rintro _ _ ⟨rfl, rfl⟩
    rw [h0]
    go_wp2
    go_ret
    exact ⟨rfl, rfl⟩
  · go_enter Try.func34, Try.ntmps34
    go_wp2_with fail
    refine (isSh_any _ _).mono ?_
    rintro _ _ ⟨rfl, rfl⟩
    rw [h0]
    go_wp2
    go_ret
    exact ⟨rfl, rfl⟩
set_option maxRecDepth 100000 in
theorem ins_9 (x : Ins) (many : Nat) (w : World) (h : x.op = 9) : Calls Try.prog 34 #[insV x, .int .i64 (many : Int)] w fun e w' => e = .returned (.bool (insOk x many)) ∧ w' = insW w x := by
  obtain ⟨o, a, b, c⟩ := x
  simp only at h
  subst h
  have e : insOk ⟨9, a, b, c⟩ many = isSh a := by simp [insOk]
  rw [e]
  cases h0 : isSh a
  · go_enter Try.func34, Try.ntmps34
    go_wp2_with fail
    refine (isSh_any _ _).mono ?_
    rintro _ _ ⟨rfl, rfl⟩
    rw [h0]
    go_wp2
    go_ret
    exact ⟨rfl, rfl⟩
  · go_enter Try.func34, Try.ntmps34
    go_wp2_with fail
    refine (isSh_any _ _).mono ?_
    rintro _ _ ⟨rfl, rfl⟩
    rw [h0]
    go_wp2
    go_ret
    exact ⟨rfl, rfl⟩
set_option maxRecDepth 100000 in
theorem ins_10 (x : Ins) (many : Nat) (w : World) (h : x.op = 10) : Calls Try.prog 34 #[insV x, .int .i64 (many : Int)] w fun e w' => e = .returned (.bool (insOk x many)) ∧ w' = insW w x := by
  obtain ⟨o, a, b, c⟩ := x
  simp only at h
  subst h
  have e : insOk ⟨10, a, b, c⟩ many = (isSh b && isSh a) := by simp [insOk]
  rw [e]
  cases h0 : isSh b
  · go_enter Try.func34, Try.ntmps34
    go_wp2_with fail
    refine (isSh_any _ _).mono ?_
    rintro _ _ ⟨rfl, rfl⟩
    rw [h0]
    go_wp2
    go_ret
    exact ⟨rfl, rfl⟩
  · cases h1 : isSh a
    · go_enter Try.func34, Try.ntmps34
      go_wp2_with fail
      refine (isSh_any _ _).mono ?_
      rintro _ _ ⟨rfl, rfl⟩
      rw [h0]
      go_wp2_with fail
      refine (isSh_any _ _).mono ?_
      rintro _ _ ⟨rfl, rfl⟩
      rw [h1]
      go_wp2
      go_ret
      exact ⟨rfl, rfl⟩
    · go_enter Try.func34, Try.ntmps34
      go_wp2_with fail
      refine (isSh_any _ _).mono ?_
      rintro _ _ ⟨rfl, rfl⟩
      rw [h0]
      go_wp2_with fail
      refine (isSh_any _ _).mono ?_
      rintro _ _ ⟨rfl, rfl⟩
      rw [h1]
      go_wp2
      go_ret
      exact ⟨rfl, rfl⟩
set_option maxRecDepth 100000 in
theorem ins_11 (x : Ins) (many : Nat) (w : World) (h : x.op = 11) : Calls Try.prog 34 #[insV x, .int .i64 (many : Int)] w fun e w' => e = .returned (.bool (insOk x many)) ∧ w' = insW w x := by
  obtain ⟨o, a, b, c⟩ := x
  simp only at h
  subst h
  have e : insOk ⟨11, a, b, c⟩ many = isSh a := by simp [insOk]
  rw [e]
  cases h0 : isSh a
  · go_enter Try.func34, Try.ntmps34
    go_wp2_with fail
    refine (isSh_any _ _).mono ?_
    rintro _ _ ⟨rfl, rfl⟩
    rw [h0]
    go_wp2
    go_ret
    exact ⟨rfl, rfl⟩
  · go_enter Try.func34, Try.ntmps34
    go_wp2_with fail
    refine (isSh_any _ _).mono ?_
    rintro _ _ ⟨rfl, rfl⟩
    rw [h0]
    go_wp2
    go_ret
    exact ⟨rfl, rfl⟩
set_option maxRecDepth 100000 in
theorem ins_12 (x : Ins) (many : Nat) (w : World) (h : x.op = 12) : Calls Try.prog 34 #[insV x, .int .i64 (many : Int)] w fun e w' => e = .returned (.bool (insOk x many)) ∧ w' = insW w x := by
  obtain ⟨o, a, b, c⟩ := x
  simp only at h
  subst h
  have e : insOk ⟨12, a, b, c⟩ many = isSh a := by simp [insOk]
  rw [e]
  cases h0 : isSh a
  · go_enter Try.func34, Try.ntmps34
    go_wp2_with fail
    refine (isSh_any _ _).mono ?_
    rintro _ _ ⟨rfl, rfl⟩
    rw [h0]
    go_wp2
    go_ret
    exact ⟨rfl, rfl⟩
  · go_enter Try.func34, Try.ntmps34
    go_wp2_with fail
    refine (isSh_any _ _).mono ?_
    rintro _ _ ⟨rfl, rfl⟩
    rw [h0]
    go_wp2
    go_ret
    exact ⟨rfl, rfl⟩
set_option maxRecDepth 100000 in
theorem ins_13 (x : Ins) (many : Nat) (w : World) (h : x.op = 13) : Calls Try.prog 34 #[insV x, .int .i64 (many : Int)] w fun e w' => e = .returned (.bool (insOk x many)) ∧ w' = insW w x := by
  obtain ⟨o, a, b, c⟩ := x
  simp only at h
  subst h
  have e : insOk ⟨13, a, b, c⟩ many = isReg a := by simp [insOk]
  rw [e]
  cases h0 : isReg a
  · go_enter Try.func34, Try.ntmps34
    go_wp2_with fail
    refine (isReg_any _ _).mono ?_
    rintro _ _ ⟨rfl, rfl⟩
    rw [h0]
    go_wp2
    go_ret
    exact ⟨rfl, rfl⟩
  · go_enter Try.func34, Try.ntmps34
    go_wp2_with fail
    refine (isReg_any _ _).mono ?_
    rintro _ _ ⟨rfl, rfl⟩
    rw [h0]
    go_wp2
    go_ret
    exact ⟨rfl, rfl⟩
set_option maxRecDepth 100000 in
theorem ins_14 (x : Ins) (many : Nat) (w : World) (h : x.op = 14) : Calls Try.prog 34 #[insV x, .int .i64 (many : Int)] w fun e w' => e = .returned (.bool (insOk x many)) ∧ w' = insW w x := by
  obtain ⟨o, a, b, c⟩ := x
  simp only at h
  subst h
  have e : insOk ⟨14, a, b, c⟩ many = true := by simp [insOk]
  rw [e]
  go_enter Try.func34, Try.ntmps34
  go_wp2
  go_ret
  exact ⟨rfl, rfl⟩
set_option maxRecDepth 100000 in
theorem ins_none (x : Ins) (many : Nat) (w : World) (h1 : x.op ≠ 1) (h2 : x.op ≠ 2) (h3 : x.op ≠ 3) (h4 : x.op ≠ 4) (h5 : x.op ≠ 5) (h6 : x.op ≠ 6) (h7 : x.op ≠ 7) (h8 : x.op ≠ 8) (h9 : x.op ≠ 9) (h10 : x.op ≠ 10) (h11 : x.op ≠ 11) (h12 : x.op ≠ 12) (h13 : x.op ≠ 13) (h14 : x.op ≠ 14) : Calls Try.prog 34 #[insV x, .int .i64 (many : Int)] w fun e w' => e = .returned (.bool (insOk x many)) ∧ w' = insW w x := by
  obtain ⟨o, a, b, c⟩ := x
  simp only at h1 h2 h3 h4 h5 h6 h7 h8 h9 h10 h11 h12 h13 h14
  have e : insOk ⟨o, a, b, c⟩ many = false := by simp [insOk, *]
  rw [e]
  go_enter Try.func34, Try.ntmps34
  go_wp2
  go_ret
  exact ⟨rfl, rfl⟩
theorem ins_any (x : Ins) (many : Nat) (w : World) : Calls Try.prog 34 #[insV x, .int .i64 (many : Int)] w fun e w' => e = .returned (.bool (insOk x many)) ∧ w' = insW w x := by
  by_cases h1 : x.op = 1
  · exact ins_1 x many w h1
  by_cases h2 : x.op = 2
  · exact ins_2 x many w h2
  by_cases h3 : x.op = 3
  · exact ins_3 x many w h3
  by_cases h4 : x.op = 4
  · exact ins_4 x many w h4
  by_cases h5 : x.op = 5
  · exact ins_5 x many w h5
  by_cases h6 : x.op = 6
  · exact ins_6 x many w h6
  by_cases h7 : x.op = 7
  · exact ins_7 x many w h7
  by_cases h8 : x.op = 8
  · exact ins_8 x many w h8
  by_cases h9 : x.op = 9
  · exact ins_9 x many w h9
  by_cases h10 : x.op = 10
  · exact ins_10 x many w h10
  by_cases h11 : x.op = 11
  · exact ins_11 x many w h11
  by_cases h12 : x.op = 12
  · exact ins_12 x many w h12
  by_cases h13 : x.op = 13
  · exact ins_13 x many w h13
  by_cases h14 : x.op = 14
  · exact ins_14 x many w h14
  exact ins_none x many w h1 h2 h3 h4 h5 h6 h7 h8 h9 h10 h11 h12 h13 h14
end Go.Proofs.Ytehkcgjiimfdjaa
