/- The contracts of cmp.Compare for strings and whole numbers. -/
import Derived.Test.YtcdfgcjecmpjhaaChecked
import Derived.Test.YtcdfgcjecmpjhaaMem
import Derived.Laws.Cover1
namespace Go.Proofs.Ytcdfgcjecmpjhaa
open Go.RowKit

/-- Two texts, byte by byte. -/
def scmp (x y : List UInt8) : Int := if Op.bytesLess x y = true then -1 else if (x == y) = true then 0 else 1
/-- Two numbers. -/
def icmp (x y : Int) : Int := if x < y then -1 else if y < x then 1 else 0

set_option maxRecDepth 100000 in
set_option maxHeartbeats 400000 in
theorem nanI_any (x : Int) (w : World) : Calls Try.prog 85 #[.int .i64 x] w fun e w' => e = .returned (.bool false) ∧ w' = w := by
  go_enter Try.func85, Try.ntmps85
  go_wp2
  go_ret
  exact ⟨ret1 (by simp), rfl⟩
set_option maxRecDepth 100000 in
set_option maxHeartbeats 400000 in
theorem nanU_any (x : Int) (w : World) : Calls Try.prog 78 #[.int .u64 x] w fun e w' => e = .returned (.bool false) ∧ w' = w := by
  go_enter Try.func78, Try.ntmps78
  go_wp2
  go_ret
  exact ⟨ret1 (by simp), rfl⟩
set_option maxRecDepth 100000 in
set_option maxHeartbeats 400000 in
theorem nanS_any (x : ByteArray) (w : World) : Calls Try.prog 84 #[.string x] w fun e w' => e = .returned (.bool false) ∧ w' = w := by
  go_enter Try.func84, Try.ntmps84
  go_wp2
  go_ret
  exact ⟨ret1 (by simp), rfl⟩
set_option maxRecDepth 100000 in
set_option maxHeartbeats 400000 in
theorem cmpI_any (x y : Int) (w : World) : Calls Try.prog 81 #[.int .i64 x, .int .i64 y] w fun e w' => e = .returned (.int .i64 (icmp x y)) ∧ w' = w := by
  by_cases h1 : x < y
  · have HE : Hid (icmp x y = -1) := by simp only [Hid, icmp, if_pos h1]
    go_enter Try.func81, Try.ntmps81
    go_wp2_with (go_at_call 85; refine (nanI_any _ _).mono ?_; rintro e w1 ⟨rfl, rfl⟩)
    go_ret
    rw [HE.out]
    exact ⟨ret1 rfl, rfl⟩
  · by_cases h2 : y < x
    · have HE : Hid (icmp x y = 1) := by simp only [Hid, icmp, if_neg h1, if_pos h2]
      go_enter Try.func81, Try.ntmps81
      go_wp2_with (go_at_call 85; refine (nanI_any _ _).mono ?_; rintro e w1 ⟨rfl, rfl⟩)
      go_ret
      rw [HE.out]
      exact ⟨ret1 rfl, rfl⟩
    · have HE : Hid (icmp x y = 0) := by simp only [Hid, icmp, if_neg h1, if_neg h2]
      go_enter Try.func81, Try.ntmps81
      go_wp2_with (go_at_call 85; refine (nanI_any _ _).mono ?_; rintro e w1 ⟨rfl, rfl⟩)
      go_ret
      rw [HE.out]
      exact ⟨ret1 rfl, rfl⟩
set_option maxRecDepth 100000 in
set_option maxHeartbeats 400000 in
theorem cmpU_any (x y : Int) (w : World) : Calls Try.prog 80 #[.int .u64 x, .int .u64 y] w fun e w' => e = .returned (.int .i64 (icmp x y)) ∧ w' = w := by
  by_cases h1 : x < y
  · have HE : Hid (icmp x y = -1) := by simp only [Hid, icmp, if_pos h1]
    go_enter Try.func80, Try.ntmps80
    go_wp2_with (go_at_call 78; refine (nanU_any _ _).mono ?_; rintro e w1 ⟨rfl, rfl⟩)
    go_ret
    rw [HE.out]
    exact ⟨ret1 rfl, rfl⟩
  · by_cases h2 : y < x
    · have HE : Hid (icmp x y = 1) := by simp only [Hid, icmp, if_neg h1, if_pos h2]
      go_enter Try.func80, Try.ntmps80
      go_wp2_with (go_at_call 78; refine (nanU_any _ _).mono ?_; rintro e w1 ⟨rfl, rfl⟩)
      go_ret
      rw [HE.out]
      exact ⟨ret1 rfl, rfl⟩
    · have HE : Hid (icmp x y = 0) := by simp only [Hid, icmp, if_neg h1, if_neg h2]
      go_enter Try.func80, Try.ntmps80
      go_wp2_with (go_at_call 78; refine (nanU_any _ _).mono ?_; rintro e w1 ⟨rfl, rfl⟩)
      go_ret
      rw [HE.out]
      exact ⟨ret1 rfl, rfl⟩
set_option maxRecDepth 100000 in
set_option maxHeartbeats 400000 in
theorem cmpS_any (x y : ByteArray) (w : World) : Calls Try.prog 79 #[.string x, .string y] w fun e w' => e = .returned (.int .i64 (scmp x.toList y.toList)) ∧ w' = w := by
  by_cases h1 : Op.bytesLess x.toList y.toList = true
  · have HE : Hid (scmp x.toList y.toList = -1) := by simp only [Hid, scmp, if_pos h1]
    go_enter Try.func79, Try.ntmps79
    go_wp2_with (go_at_call 84; refine (nanS_any _ _).mono ?_; rintro e w1 ⟨rfl, rfl⟩)
    go_ret
    rw [HE.out]
    exact ⟨ret1 rfl, rfl⟩
  · by_cases h2 : (x.toList == y.toList) = true
    · have HE : Hid (scmp x.toList y.toList = 0) := by simp only [Hid, scmp, if_neg h1, if_pos h2]
      have h1' : Op.bytesLess x.toList y.toList = false := by simpa using h1
      go_enter Try.func79, Try.ntmps79
      go_wp2_with (go_at_call 84; refine (nanS_any _ _).mono ?_; rintro e w1 ⟨rfl, rfl⟩)
      go_ret
      rw [HE.out]
      exact ⟨ret1 rfl, rfl⟩
    · have HE : Hid (scmp x.toList y.toList = 1) := by simp only [Hid, scmp, if_neg h1, if_neg h2]
      have h1' : Op.bytesLess x.toList y.toList = false := by simpa using h1
      have h2' : (x.toList == y.toList) = false := by simpa using h2
      go_enter Try.func79, Try.ntmps79
      go_wp2_with (go_at_call 84; refine (nanS_any _ _).mono ?_; rintro e w1 ⟨rfl, rfl⟩)
      go_ret
      rw [HE.out]
      exact ⟨ret1 rfl, rfl⟩
end Go.Proofs.Ytcdfgcjecmpjhaa
