/- The contracts of edit's must, checkGone, checkFile and Check. -/
import Derived.Test.YtcdfgcjecmpjhaaE13Mem
import Derived.Test.YtcdfgcjecmpjhaaChk
import Derived.Test.YtcdfgcjecmpjhaaKcmp
import Derived.WalkLawsBesides
namespace Go.Proofs.Ytcdfgcjecmpjhaa
open Go.RowKit
set_option linter.unusedVariables false
set_option linter.unusedSimpArgs false
set_option maxRecDepth 100000 in
set_option maxHeartbeats 400000 in
theorem checkGone_any (l : Int) (n : Nat) (w : World) : Calls Try.prog 40 #[.agg #[.int .i64 l, .int .u64 (n : Int)]] w fun e w' => e = .returned (.int .i64 ((gErr l n : Nat) : Int)) ∧ Below w.heap.size w w' := by
  have hb : Below w.heap.size w (w.alloc (.cells #[.int .i64 l, .int .u64 (n : Int)] 52)) := (Below.refl _ _).alloc (Nat.le_refl _) _
  by_cases h1 : l < 0
  · have HE : Hid (gErr l n = 130) := by unfold gErr Hid; rw [if_pos (.inl h1)]
    go_enter Try.func40, Try.ntmps40
    go_wp2
    go_ret
    rw [HE.out]
    exact ⟨ret1 rfl, hb⟩
  · by_cases h2 : 4 ≤ l
    · have HE : Hid (gErr l n = 130) := by unfold gErr Hid; rw [if_pos (.inr h2)]
      go_enter Try.func40, Try.ntmps40
      go_wp2
      go_ret
      rw [HE.out]
      exact ⟨ret1 rfl, hb⟩
    · by_cases h3 : n < 1
      · have HE : Hid (gErr l n = 132) := by unfold gErr Hid; rw [if_neg (by omega), if_pos (.inl h3)]
        go_enter Try.func40, Try.ntmps40
        go_wp2
        go_ret
        rw [HE.out]
        exact ⟨ret1 rfl, hb⟩
      · by_cases h4 : 1099511627776 < n
        · have HE : Hid (gErr l n = 132) := by unfold gErr Hid; rw [if_neg (by omega), if_pos (.inr h4)]
          go_enter Try.func40, Try.ntmps40
          go_wp2
          go_ret
          rw [HE.out]
          exact ⟨ret1 rfl, hb⟩
        · have HE : Hid (gErr l n = 0) := by unfold gErr Hid; rw [if_neg (by omega), if_neg (by omega)]
          go_enter Try.func40, Try.ntmps40
          go_wp2
          go_ret
          rw [HE.out]
          exact ⟨ret1 rfl, hb⟩
end Go.Proofs.Ytcdfgcjecmpjhaa
