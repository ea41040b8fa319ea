/- The contracts of cmp.Compare for strings and whole numbers. -/
import Derived.Test.YtfijibengmgegaaChecked
import Derived.Test.YtfijibengmgegaaMem
import Derived.Laws.Cover1
namespace Go.Proofs.Ytfijibengmgegaa
open Go.RowKit

/-- Two texts, byte by byte. -/
def scmp (x y : List UInt8) : Int := if Op.bytesLess x y = true then -1 else if (x == y) = true then 0 else 1
/-- Two numbers. -/
def icmp (x y : Int) : Int := if x < y then -1 else if y < x then 1 else 0

set_option maxRecDepth 100000 in
set_option maxHeartbeats 400000 in
theorem nanI_any (x : Int) (w : World) : Calls Try.prog 58 #[.int .i64 x] w fun e w' => e = .returned (.bool false) ∧ w' = w := by
  go_enter Try.func58, Try.ntmps58
  go_wp2
  go_ret
  exact ⟨ret1 (by simp), rfl⟩
set_option maxRecDepth 100000 in
set_option maxHeartbeats 400000 in
theorem nanU_any (x : Int) (w : World) : Calls Try.prog 57 #[.int .u64 x] w fun e w' => e = .returned (.bool false) ∧ w' = w := by
  go_enter Try.func57, Try.ntmps57
  go_wp2
  go_ret
  exact ⟨ret1 (by simp), rfl⟩
set_option maxRecDepth 100000 in
set_option maxHeartbeats 400000 in
theorem nanS_any (x : ByteArray) (w : World) : Calls Try.prog 56 #[.string x] w fun e w' => e = .returned (.bool false) ∧ w' = w := by
  go_enter Try.func56, Try.ntmps56
  go_wp2
  go_ret
  exact ⟨ret1 (by simp), rfl⟩
set_option maxRecDepth 100000 in
set_option maxHeartbeats 400000 in
theorem cmpI_any (x y : Int) (w : World) : Calls Try.prog 53 #[.int .i64 x, .int .i64 y] w fun e w' => e = .returned (.int .i64 (icmp x y)) ∧ w' = w := by
  by_cases h1 : x < y
  · have HE : Hid (icmp x y = -1) := by simp only [Hid, icmp, if_pos h1]
    go_enter Try.func53, Try.ntmps53
    go_wp2_with (go_at_call 58; refine (nanI_any _ _).mono ?_; rintro e w1 ⟨rfl, rfl⟩)
    go_ret
    rw [HE.out]
    exact ⟨ret1 rfl, rfl⟩
  · by_cases h2 : y < x
    · have HE : Hid (icmp x y = 1) := by simp only [Hid, icmp, if_neg h1, if_pos h2]
      go_enter Try.func53, Try.ntmps53
      go_wp2_with (go_at_call 58; refine (nanI_any _ _).mono ?_; rintro e w1 ⟨rfl, rfl⟩)
      go_ret
      rw [HE.out]
      exact ⟨ret1 rfl, rfl⟩
    · have HE : Hid (icmp x y = 0) := by simp only [Hid, icmp, if_neg h1, if_neg h2]
      go_enter Try.func53, Try.ntmps53
      go_wp2_with (go_at_call 58; refine (nanI_any _ _).mono ?_; rintro e w1 ⟨rfl, rfl⟩)
      go_ret
      rw [HE.out]
      exact ⟨ret1 rfl, rfl⟩
set_option maxRecDepth 100000 in
set_option maxHeartbeats 400000 in
theorem cmpU_any (x y : Int) (w : World) : Calls Try.prog 52 #[.int .u64 x, .int .u64 y] w fun e w' => e = .returned (.int .i64 (icmp x y)) ∧ w' = w := by
  by_cases h1 : x < y
  · have HE : Hid (icmp x y = -1) := by simp only [Hid, icmp, if_pos h1]
    go_enter Try.func52, Try.ntmps52
    go_wp2_with (go_at_call 57; refine (nanU_any _ _).mono ?_; rintro e w1 ⟨rfl, rfl⟩)
    go_ret
    rw [HE.out]
    exact ⟨ret1 rfl, rfl⟩
  · by_cases h2 : y < x
    · have HE : Hid (icmp x y = 1) := by simp only [Hid, icmp, if_neg h1, if_pos h2]
      go_enter Try.func52, Try.ntmps52
      go_wp2_with (go_at_call 57; refine (nanU_any _ _).mono ?_; rintro e w1 ⟨rfl, rfl⟩)
      go_ret
      rw [HE.out]
      exact ⟨ret1 rfl, rfl⟩
    · have HE : Hid (icmp x y = 0) := by simp only [Hid, icmp, if_neg h1, if_neg h2]
      go_enter Try.func52, Try.ntmps52
      go_wp2_with (go_at_call 57; refine (nanU_any _ _).mono ?_; rintro e w1 ⟨rfl, rfl⟩)
      go_ret
      rw [HE.out]
      exact ⟨ret1 rfl, rfl⟩
set_option maxRecDepth 100000 in
set_option maxHeartbeats 400000 in
theorem cmpS_any (x y : ByteArray) (w : World) : Calls Try.prog 51 #[.string x, .string y] w fun e w' => e = .returned (.int .i64 (scmp x.toList y.toList)) ∧ w' = w := by
  by_cases h1 : Op.bytesLess x.toList y.toList = true
  · have HE : Hid (scmp x.toList y.toList = -1) := by simp only [Hid, scmp, if_pos h1]
    go_enter Try.func51, Try.ntmps51
    go_wp2_with (go_at_call 56; refine (nanS_any _ _).mono ?_; rintro e w1 ⟨rfl, rfl⟩)
    go_ret
    rw [HE.out]
    exact ⟨ret1 rfl, rfl⟩
  · by_cases h2 : (x.toList == y.toList) = true
    · have HE : Hid (scmp x.toList y.toList = 0) := by simp only [Hid, scmp, if_neg h1, if_pos h2]
      have h1' : Op.bytesLess x.toList y.toList = false := by simpa using h1
      go_enter Try.func51, Try.ntmps51
      go_wp2_with (go_at_call 56; refine (nanS_any _ _).mono ?_; rintro e w1 ⟨rfl, rfl⟩)
      go_ret
      rw [HE.out]
      exact ⟨ret1 rfl, rfl⟩
    · have HE : Hid (scmp x.toList y.toList = 1) := by simp only [Hid, scmp, if_neg h1, if_neg h2]
      have h1' : Op.bytesLess x.toList y.toList = false := by simpa using h1
      have h2' : (x.toList == y.toList) = false := by simpa using h2
      go_enter Try.func51, Try.ntmps51
      go_wp2_with (go_at_call 56; refine (nanS_any _ _).mono ?_; rintro e w1 ⟨rfl, rfl⟩)
      go_ret
      rw [HE.out]
      exact ⟨ret1 rfl, rfl⟩
end Go.Proofs.Ytfijibengmgegaa
