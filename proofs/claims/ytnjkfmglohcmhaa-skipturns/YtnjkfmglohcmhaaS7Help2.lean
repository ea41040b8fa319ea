/- The contracts of the laws' own helpers: within, Rising, SameNames. -/
import Derived.Test.YtnjkfmglohcmhaaS7Help
namespace Go.Proofs.Ytnjkfmglohcmhaa
open Go.RowKit
set_option linter.unusedVariables false
section
variable {w : World} {a b : Option Addr} {n c m d : Nat} {l k : List ByteArray}
set_option maxRecDepth 100000 in
theorem within_at (h : StAt w a n c l) (hk : StAt w b m d k) (hall : ∀ x ∈ l, x ∈ k) : Calls Try.prog 15 #[.slice a n c, .slice b m d] w fun e w' => e = .returned (.bool true) ∧ w' = w := by
  have hmax := h.max
  have hle := h.le
  have HS : Hid (l.length = n) := h.size
  unfold maxLen at hmax
  have HH : Hid (StAt w a n c l) := h
  have HK : Hid (StAt w b m d k) := hk
  have HA : Hid (∀ x ∈ l, x ∈ k) := hall
  clear h hk hall
  go_enter Try.func15, Try.ntmps15
  go_wp2_with fail
  go_loop [5] (fun x => ∃ i : Nat, i ≤ n ∧ x = .int .i64 (i : Int)) (fun x => n - (intOf x).toNat)
  case atStart => exact ⟨0, Nat.zero_le _, rfl⟩
  case round =>
    obtain ⟨i, hi, rfl⟩ := hrel
    by_cases hlt : i < n
    · obtain ⟨bk, off, ha, hc⟩ := HH.out.here (by omega)
      have hci := hc i hlt
      rw [ha]
      have hlt' : i < l.length := by rw [HS.out]; exact hlt
      have hb : hasB k (l.getD i ⟨#[]⟩) = true := hasB_true.2 (HA.out _ (by simp [List.getD, hlt']))
      have HC := has_at HK.out (l.getD i ⟨#[]⟩)
      rw [hb] at HC
      generalize l.getD i ⟨#[]⟩ = x at hci HC
      clear ha hc hb
      go_wp2_with fail
      refine HC.mono ?_
      rintro _ _ ⟨rfl, rfl⟩
      go_wp2
      go_round
      case rel => exact ⟨i + 1, by omega, by go_num⟩
      case measure => simp only [intOf]; omega
    · go_wp2
      go_returns
      exact ⟨rfl, rfl⟩
set_option maxRecDepth 100000 in
theorem rising_at (h : StAt w a n c l) (hn : n ≤ 1000000) (hs : l.Pairwise (fun x y => kl x y = true)) : Calls Try.prog 24 #[.slice a n c] w fun e w' => e = .returned (.bool true) ∧ ∃ d, w' = w.drewN d := by
  have hle := h.le
  have hmax := h.max
  unfold maxLen at hmax
  have HS : Hid (l.length = n) := h.size
  have HH : Hid (StAt w a n c l) := h
  have HP : Hid (l.Pairwise (fun x y => kl x y = true)) := hs
  clear h hs
  go_enter Try.func24, Try.ntmps24
  go_wp2_with fail
  go_loopw [3] (fun x wr => ∃ i d : Nat, i ≤ n ∧ x = .int .i64 (i : Int) ∧ wr = w.drewN d) (fun x _ => n - (intOf x).toNat)
  case atStart => exact ⟨0, 0, Nat.zero_le _, rfl, rfl⟩
  case round =>
    obtain ⟨i, d, hi, rfl, rfl⟩ := hrel
    by_cases hlt : i + 1 < n
    · obtain ⟨bk, off, ha, hc⟩ := HH.out.here (by omega)
      have hci := hc i (by omega)
      have hcj := hc (i + 1) hlt
      rw [ha]
      have h1 : i < l.length := by rw [HS.out]; omega
      have h2 : i + 1 < l.length := by rw [HS.out]; omega
      have hkl := List.pairwise_iff_getElem.1 HP.out i (i + 1) h1 h2 (by omega)
      have e1 : l.getD i ⟨#[]⟩ = l[i] := by simp [List.getD, h1]
      have e2 : l.getD (i + 1) ⟨#[]⟩ = l[i + 1] := by simp [List.getD, h2]
      rw [← e1, ← e2] at hkl
      generalize l.getD i ⟨#[]⟩ = x at hci hkl
      generalize l.getD (i + 1) ⟨#[]⟩ = y at hcj hkl
      have hge : ∀ w, (binOp .geq 9 (.string x) (.string y)).run Try.prog w = .ok (.bool false) w := fun w => by rw [str_geq]; unfold kl at hkl; rw [hkl]; rfl
      have hx : (((i : Nat) : Int) + 1) = ((i + 1 : Nat) : Int) := by omega
      clear ha hc e1 e2 hkl hx h1 h2
      go_wp2
      go_quiet (fail)
      go_wp2
      go_roundw
      case rel => exact ⟨i + 1, _, by omega, by go_num, rfl⟩
      case measure => simp only [intOf]; omega
    · go_wp2
      go_returns
      exact ⟨rfl, d, rfl⟩
end
end Go.Proofs.Ytnjkfmglohcmhaa
