/- The contract of codec's fits. -/
import Derived.Test.YtiflepadjcpjjaaChecked
import Derived.Test.YtiflepadjcpjjaaBits
import Derived.Test.YtiflepadjcpjjaaPlain
import Derived.Test.YtiflepadjcpjjaaMem
namespace Go.Proofs.Ytiflepadjcpjjaa
open Go.RowKit

def fitsB (n : Int) : Bool := decide (1 ≤ n) && decide (n ≤ 8)
set_option maxHeartbeats 400000 in
theorem fits_any (n : Int) (w : World) : Calls Try.prog 58 #[.int .i64 n] w fun e w' => e = .returned (.bool (fitsB n)) ∧ w' = w := by
  by_cases h1 : 1 ≤ n
  · by_cases h2 : n ≤ 8
    · go_enter Try.func58, Try.ntmps58
      go_wp2
      go_ret
      exact ⟨ret1 (by simp [fitsB, h1, h2]), rfl⟩
    · have h2' : decide (n ≤ 8) = false := by simpa using h2
      go_enter Try.func58, Try.ntmps58
      go_wp2
      go_ret
      exact ⟨ret1 (by simp [fitsB, h1, h2]), rfl⟩
  · have h1' : decide (1 ≤ n) = false := by simpa using h1
    go_enter Try.func58, Try.ntmps58
    go_wp2
    go_ret
    exact ⟨ret1 (by simp [fitsB]; omega), rfl⟩
theorem fits_yes (n : Int) (w : World) (h1 : 1 ≤ n) (h2 : n ≤ 8) : Calls Try.prog 58 #[.int .i64 n] w fun e w' => e = .returned (.bool true) ∧ w' = w := by
  have := fits_any n w
  rw [show fitsB n = true by simp [fitsB, h1, h2]] at this
  exact this
theorem fits_no (n : Int) (w : World) (h : n < 1 ∨ 8 < n) : Calls Try.prog 58 #[.int .i64 n] w fun e w' => e = .returned (.bool false) ∧ w' = w := by
  have := fits_any n w
  rw [show fitsB n = false by simp [fitsB]; omega] at this
  exact this
end Go.Proofs.Ytiflepadjcpjjaa
