/- The contracts of ikey.Check and of the document's own Check: what is wrong with a key, told by a plain function. -/
import Derived.Test.YtcdfgcjecmpjhaaChecked
import Derived.Test.YtcdfgcjecmpjhaaMem
namespace Go.Proofs.Ytcdfgcjecmpjhaa
open Go.RowKit

/-- What is wrong with a key whose user has n bytes. -/
def chk (n q : Nat) (k : Int) : Nat := if 64 < n then 21 else if 72057594037927935 < q then 22 else if k = 0 ∨ k = 1 then 0 else 23

set_option maxRecDepth 100000 in
set_option maxHeartbeats 400000 in
theorem check_any (s : ByteArray) (q : Nat) (k : Int) (w : World) (hs : s.size ≤ 9223372036854775807) :
    Calls Try.prog 52 #[.agg #[.string s, .int .u64 (q : Int), .int .i64 k]] w fun e w' => e = .returned (.int .i64 ((chk s.size q k : Nat) : Int)) ∧ Below w.heap.size w w' := by
  have hb : Below w.heap.size w (w.alloc (.cells #[.string s, .int .u64 (q : Int), .int .i64 k] 48)) := (Below.refl _ _).alloc (Nat.le_refl _) _
  by_cases h1 : 64 < s.size
  · have HE : Hid (chk s.size q k = 21) := by unfold chk Hid; rw [if_pos h1]
    go_enter Try.func52, Try.ntmps52
    go_wp2
    go_ret
    rw [HE.out]
    exact ⟨ret1 rfl, hb⟩
  · by_cases h2 : 72057594037927935 < q
    · have HE : Hid (chk s.size q k = 22) := by unfold chk Hid; rw [if_neg h1, if_pos h2]
      go_enter Try.func52, Try.ntmps52
      go_wp2
      go_ret
      rw [HE.out]
      exact ⟨ret1 rfl, hb⟩
    · by_cases h3 : k = 0
      · have HE : Hid (chk s.size q k = 0) := by unfold chk Hid; rw [if_neg h1, if_neg h2, if_pos (.inl h3)]
        subst h3
        go_enter Try.func52, Try.ntmps52
        go_wp2
        go_ret
        rw [HE.out]
        exact ⟨ret1 rfl, hb⟩
      · by_cases h4 : k = 1
        · have HE : Hid (chk s.size q k = 0) := by unfold chk Hid; rw [if_neg h1, if_neg h2, if_pos (.inr h4)]
          subst h4
          go_enter Try.func52, Try.ntmps52
          go_wp2
          go_ret
          rw [HE.out]
          exact ⟨ret1 rfl, hb⟩
        · have HE : Hid (chk s.size q k = 23) := by unfold chk Hid; rw [if_neg h1, if_neg h2, if_neg (by omega)]
          have h3' : (k == 0) = false := by simpa using h3
          have h4' : (k == 1) = false := by simpa using h4
          go_enter Try.func52, Try.ntmps52
          go_wp2
          go_ret
          rw [HE.out]
          exact ⟨ret1 rfl, hb⟩
end Go.Proofs.Ytcdfgcjecmpjhaa
