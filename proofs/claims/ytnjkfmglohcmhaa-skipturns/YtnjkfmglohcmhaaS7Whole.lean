/- The contract of whole. -/
import Derived.Test.YtnjkfmglohcmhaaS7Left
namespace Go.Proofs.Ytnjkfmglohcmhaa
open Go.RowKit
set_option linter.unusedVariables false
section
variable {w : World} {p : Nat} {S : PS} {g : SG} {i : Nat}
theorem PS.done_false {S : PS} {i : Nat} (h : S.done i = false) : (S.op i).ph ≠ 3 := by simpa [PS.done] using h
theorem PS.done_true {S : PS} {i : Nat} (h : S.done i = true) : (S.op i).ph = 3 := by simpa [PS.done] using h
theorem PS.step_done {S : PS} {i : Nat} (h : S.done i = true) : S.step i = S := by
  have := PS.done_true h
  unfold PS.step
  rw [if_neg (by omega), if_neg (by omega), if_neg (by omega)]
/-- What whole leaves. -/
structure Whole (w w' : World) (p : Nat) (g : SG) (S S' : PS) (i : Nat) : Prop where
  at' : SkAt w' p S' g
  goes : Goes S S'
  done : S'.done i = true
  chg : Chg (Foot p g) w w'
set_option maxRecDepth 100000 in
set_option maxHeartbeats 1000000 in
theorem whole_at (h : SkAt w p S g) (hi : i < S.ops.length) {most : Nat} (hm : S.left i ≤ most) (h1 : 1 ≤ most) (hM : most ≤ 1000000) : Calls Try.prog 17 #[at_ p, .int .i64 (i : Int), .int .i64 (most : Int)] w fun e w' => ∃ (r : Nat) (S' : PS), e = .returned (.int .i64 (r : Int)) ∧ 1 ≤ r ∧ r ≤ most ∧ Whole w w' p g S S' i := by
  have HS : Hid (SkAt w p S g) := h
  clear h
  go_enter Try.func17, Try.ntmps17
  go_wp2_with fail
  go_loopw [7] (fun x wr => ∃ (k : Nat) (T : PS), k ≤ most ∧ x = .int .i64 (k : Int) ∧ Hid (SkAt wr p T g ∧ Goes S T ∧ Chg (Foot p g) w wr ∧ (k = 0 ∨ T.done i = false) ∧ T.left i + k ≤ most)) (fun x _ => most + 1 - (intOf x).toNat)
  case atStart => exact ⟨0, S, Nat.zero_le _, rfl, HS.out, Goes.refl S, Chg.refl _ _, .inl rfl, by omega⟩
  case round =>
    obtain ⟨k, T, hk, rfl, HR⟩ := hrel
    have hiT : i < T.ops.length := by rw [HR.out.2.1.len]; exact hi
    have HP := step_at HR.out.1 hiT
    cases hd : (T.step i).done i with
    | true =>
      rw [hd] at HP
      have HD : Hid ((T.step i).done i = true) := hd
      have HK : Hid (k + 1 ≤ most) := by
        obtain ⟨r1, r2, r3, r4, r5⟩ := HR.out
        unfold Hid
        cases hdT : T.done i with
        | true =>
          rcases r4 with e | e
          · omega
          · rw [e] at hdT; cases hdT
        | false =>
          have := r1.inv.left_step hiT (PS.done_false hdT)
          omega
      clear hd
      go_wp2_with fail
      refine HP.mono ?_
      rintro _ w1 ⟨rfl, h1', h2'⟩
      have HX : Hid (SkAt w1 p (T.step i) g ∧ Chg (Foot p g) wr w1) := ⟨h1', h2'⟩
      clear h1' h2'
      go_wp2
      go_returns
      exact ⟨k + 1, T.step i, by go_num, by omega, HK.out, HX.out.1, HR.out.2.1.trans (goes_step hiT), HD.out, HR.out.2.2.1.andThen HX.out.2 (fun _ _ h => h)⟩
    | false =>
      rw [hd] at HP
      have HD : Hid ((T.step i).done i = false) := hd
      have HK : Hid (k + 1 ≤ most ∧ (T.step i).left i + (k + 1) ≤ most) := by
        obtain ⟨r1, r2, r3, r4, r5⟩ := HR.out
        unfold Hid
        have hdT : T.done i = false := by
          cases hdT : T.done i with
          | true => rw [PS.step_done hdT, hdT] at hd; cases hd
          | false => rfl
        have := r1.inv.left_step hiT (PS.done_false hdT)
        have h9 := (r1.inv.step hiT).left_step (by rw [PS.step_len]; exact hiT) (PS.done_false hd)
        omega
      clear hd
      go_wp2_with fail
      refine HP.mono ?_
      rintro _ w1 ⟨rfl, h1', h2'⟩
      have HX : Hid (SkAt w1 p (T.step i) g ∧ Chg (Foot p g) wr w1) := ⟨h1', h2'⟩
      clear h1' h2'
      go_wp2
      go_roundw
      case rel => exact ⟨k + 1, T.step i, HK.out.1, by go_num, HX.out.1, HR.out.2.1.trans (goes_step hiT), HR.out.2.2.1.andThen HX.out.2 (fun _ _ h => h), .inr HD.out, HK.out.2⟩
      case measure => simp only [intOf]; omega
end
end Go.Proofs.Ytnjkfmglohcmhaa
