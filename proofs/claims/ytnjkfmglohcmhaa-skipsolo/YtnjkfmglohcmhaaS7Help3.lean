/- The contracts of the laws' own helpers: SameNames. -/
import Derived.Test.YtnjkfmglohcmhaaS7Help
namespace Go.Proofs.Ytnjkfmglohcmhaa
open Go.RowKit
set_option linter.unusedVariables false
section
variable {w : World} {a b : Option Addr} {n c m d : Nat} {l k : List ByteArray}
set_option maxRecDepth 100000 in
theorem same_at (h : StAt w a n c l) (hk : StAt w b n d l) (hn : n ≤ 1000000) : Calls Try.prog 18 #[.slice a n c, .slice b n d] w fun e w' => e = .returned (.bool true) ∧ ∃ d, w' = w.drewN d := by
  have hle := h.le
  have hmax := h.max
  have hle2 := hk.le
  have hmax2 := hk.max
  unfold maxLen at hmax hmax2
  have HH : Hid (StAt w a n c l) := h
  have HK : Hid (StAt w b n d l) := hk
  clear h hk
  go_enter Try.func18, Try.ntmps18
  go_wp2_with fail
  go_loopw [5] (fun x wr => ∃ i d : Nat, i ≤ n ∧ x = .int .i64 (i : Int) ∧ wr = w.drewN d) (fun x _ => n - (intOf x).toNat)
  case atStart => exact ⟨0, 0, Nat.zero_le _, rfl, rfl⟩
  case round =>
    obtain ⟨i, d, hi, rfl, rfl⟩ := hrel
    by_cases hlt : i < n
    · obtain ⟨bk, off, ha, hc⟩ := HH.out.here (by omega)
      obtain ⟨bk2, off2, hb, hc2⟩ := HK.out.here (by omega)
      have hci := hc i hlt
      have hcj := hc2 i hlt
      rw [ha, hb]
      generalize l.getD i ⟨#[]⟩ = x at hci hcj
      have hq : (x.toList == x.toList) = true := str_eq.2 rfl
      clear ha hc hb hc2
      go_wp2
      go_quiet (fail)
      go_wp2
      go_roundw
      case rel => exact ⟨i + 1, _, by omega, by go_num, rfl⟩
      case measure => simp only [intOf]; omega
    · go_wp2
      go_returns
      exact ⟨rfl, d, rfl⟩
end
end Go.Proofs.Ytnjkfmglohcmhaa
