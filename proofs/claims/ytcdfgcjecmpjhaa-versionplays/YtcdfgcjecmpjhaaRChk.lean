/- The contract of the document's own Check. -/
import Derived.Test.YtcdfgcjecmpjhaaChk
namespace Go.Proofs.Ytcdfgcjecmpjhaa
open Go.RowKit

set_option maxRecDepth 100000 in
set_option maxHeartbeats 400000 in
theorem rcheck_any (s : ByteArray) (q : Nat) (k : Int) (w : World) (hs : s.size ≤ 9223372036854775807) :
    Calls Try.prog 47 #[.agg #[.string s, .int .u64 (q : Int), .int .i64 k]] w fun e w' => e = .returned (.int .i64 ((chk s.size q k : Nat) : Int)) ∧ Below w.heap.size w w' := by
  have hb : Below w.heap.size w (w.alloc (.cells #[.string s, .int .u64 (q : Int), .int .i64 k] 48)) := (Below.refl _ _).alloc (Nat.le_refl _) _
  by_cases h1 : 64 < s.size
  · have HE : Hid (chk s.size q k = 21) := by unfold chk Hid; rw [if_pos h1]
    go_enter Try.func47, Try.ntmps47
    go_wp2
    go_ret
    rw [HE.out]
    exact ⟨ret1 rfl, hb⟩
  · by_cases h2 : 72057594037927935 < q
    · have HE : Hid (chk s.size q k = 22) := by unfold chk Hid; rw [if_neg h1, if_pos h2]
      go_enter Try.func47, Try.ntmps47
      go_wp2
      go_ret
      rw [HE.out]
      exact ⟨ret1 rfl, hb⟩
    · by_cases h3 : k = 0
      · have HE : Hid (chk s.size q k = 0) := by unfold chk Hid; rw [if_neg h1, if_neg h2, if_pos (.inl h3)]
        subst h3
        go_enter Try.func47, Try.ntmps47
        go_wp2
        go_ret
        rw [HE.out]
        exact ⟨ret1 rfl, hb⟩
      · by_cases h4 : k = 1
        · have HE : Hid (chk s.size q k = 0) := by unfold chk Hid; rw [if_neg h1, if_neg h2, if_pos (.inr h4)]
          subst h4
          go_enter Try.func47, Try.ntmps47
          go_wp2
          go_ret
          rw [HE.out]
          exact ⟨ret1 rfl, hb⟩
        · have HE : Hid (chk s.size q k = 23) := by unfold chk Hid; rw [if_neg h1, if_neg h2, if_neg (by omega)]
          have h3' : (k != 0) = true := by simpa using h3
          have h4' : (k != 1) = true := by simpa using h4
          go_enter Try.func47, Try.ntmps47
          go_wp2
          go_ret
          rw [HE.out]
          exact ⟨ret1 rfl, hb⟩
end Go.Proofs.Ytcdfgcjecmpjhaa
