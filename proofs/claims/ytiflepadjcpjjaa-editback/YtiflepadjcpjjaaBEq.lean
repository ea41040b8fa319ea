/- The contract of bytes.Equal: whether two slices hold the same bytes. -/
import Derived.Test.YtiflepadjcpjjaaOwn
namespace Go.Proofs.Ytiflepadjcpjjaa
open Go.RowKit
theorem strOf_beq (x y : List UInt8) : ((strOf x).toList == (strOf y).toList) = (x == y) := by
  rw [ByteArray.toList_eq, ByteArray.toList_eq]
  simp [strOf]
set_option maxRecDepth 100000 in
set_option maxHeartbeats 1000000 in
theorem equal_any (a1 a2 : Option Addr) (n1 c1 n2 c2 : Nat) (x y : List UInt8) (w : World) (h1 : BsAt w a1 n1 c1 x) (h2 : BsAt w a2 n2 c2 y) :
    Calls Try.prog 29 #[.slice a1 n1 c1, .slice a2 n2 c2] w fun e w' => e = .returned (.bool (x == y)) ∧ w' = w := by
  have e1 := conv_of h1
  have e2 := conv_of h2
  have HE : Hid (_ = _) := strOf_beq x y
  clear h1 h2
  generalize strOf x = X at e1 HE
  generalize strOf y = Y at e2 HE
  go_enter Try.func29, Try.ntmps29
  go_wp2
  all_goals go_ret
  all_goals (rw [← HE.out]; exact ⟨ret1 rfl, rfl⟩)
end Go.Proofs.Ytiflepadjcpjjaa
