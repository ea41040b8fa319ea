/- The contracts of beginOf and mayName. -/
import Derived.Test.YtkelahekfkhcfaaFsTurn
namespace Go.Proofs.Ytkelahekfkhcfaa
open Go.RowKit Go.Maps
set_option maxRecDepth 100000 in
set_option maxHeartbeats 1000000 in
theorem beginOf_at {w : World} {p : Nat} {S : PFs} {g : Gh} (h : FsAt w p S g) (hI : Inv S) (ha : S.asked < 1000000) (name : ByteArray) : Calls Try.prog 47 #[at_ p, .string name] w fun e w' => FsAt w' p S.ask.1 g ∧ Inv S.ask.1 ∧ Chg (fun k => k = p) w w' ∧
    ((∃ er : Int, er ≠ 0 ∧ Hid (er = ((S.ask.2 : Nat) : Int)) ∧ e = .returned (.tuple #[.pointer none, .int .i64 er])) ∨ (S.ask.2 = 0 ∧ findN S.names name.data.toList = none ∧ e = .returned (.tuple #[.pointer none, .int .i64 42])) ∨ (∃ k, S.ask.2 = 0 ∧ findN S.names name.data.toList = some k ∧ e = .returned (.tuple #[at_ (g.blk k), .int .i64 0]))) := by
  obtain ⟨q, _⟩ := ask_same S
  go_enter Try.func47, Try.ntmps47
  go_wp2_with fail
  refine (begin_at h hI ha).mono ?_
  rintro e w2 ⟨rfl, h2, hI2, hc2⟩
  obtain ⟨q0, q1, q2, q3, q4, q5, q6, q7, q8, q9⟩ := h2.fs.cells
  have hlk := h2.nm.look hI2.short name
  rw [q] at hlk
  simp only [cellsOf] at q7
  by_cases h0 : S.ask.2 = 0
  · have H0 : Hid (S.ask.2 = 0) := h0
    obtain ⟨er, her⟩ : ∃ er : Nat, S.ask.2 = er := ⟨_, rfl⟩
    rw [h0]
    cases hf : findN S.names name.data.toList with
    | none =>
      rw [hf, ptrOf] at hlk
      go_wp2
      go_returns
      exact ⟨h2, hI2, hc2, .inr (.inl ⟨h0, hf, rfl⟩)⟩
    | some k =>
      rw [hf, ptrOf] at hlk
      go_wp2
      go_returns
      exact ⟨h2, hI2, hc2, .inr (.inr ⟨k, h0, hf, rfl⟩)⟩
  · obtain ⟨er, her⟩ : ∃ er : Int, er = ((S.ask.2 : Nat) : Int) := ⟨_, rfl⟩
    have hne : er ≠ 0 := by omega
    have HE : Hid (er = ((S.ask.2 : Nat) : Int)) := her
    rw [← her]
    clear her
    go_wp2
    go_returns
    exact ⟨h2, hI2, hc2, .inl ⟨er, hne, HE, rfl⟩⟩
set_option maxRecDepth 100000 in
theorem mayName_any (w : World) (s : ByteArray) : Calls Try.prog 46 #[.string s] w fun e w' => e = .returned (.bool (goodN s.data.toList)) ∧ w' = w := by
  have e : s.data.toList.length = s.size := rfl
  unfold goodN
  rw [e]
  go_enter Try.func46, Try.ntmps46
  go_wp2
  · have h1 : (1 : Int) ≤ (s.size : Int) := by assumption
    go_returns
    refine ⟨ret1 (congrArg Value.bool ?_), rfl⟩
    have : decide (0 < s.size) = true := decide_eq_true (by omega)
    rw [this, Bool.true_and]
    show decide ((s.size : Int) ≤ 32) = _
    rw [decide_eq_decide]
    omega
  · have h1 : (s.size : Int) < 1 := by assumption
    go_returns
    refine ⟨ret1 (congrArg Value.bool ?_), rfl⟩
    have : decide (0 < s.size) = false := decide_eq_false (by omega)
    rw [this, Bool.false_and]
end Go.Proofs.Ytkelahekfkhcfaa
