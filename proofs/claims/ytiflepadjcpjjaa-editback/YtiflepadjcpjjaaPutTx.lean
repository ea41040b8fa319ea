/- The contract of codec.PutText: what it lays behind bytes, in new memory. -/
import Derived.Test.YtiflepadjcpjjaaOwnFn
import Derived.Test.YtiflepadjcpjjaaLayUv
import Derived.Test.YtiflepadjcpjjaaPlainPut
namespace Go.Proofs.Ytiflepadjcpjjaa
open Go.RowKit

set_option maxRecDepth 100000 in
set_option maxHeartbeats 400000 in
theorem putText_any (a : Option Addr) (len cap : Nat) (bs : List UInt8) (s : ByteArray) (w : World) (h : BsAt w a len cap bs) (hl : len + 10 + s.size ≤ 140737488355328) :
    Calls Try.prog 35 #[.slice a len cap, .string s] w fun e w' => ∃ a' c', e = .returned (.slice a' (len + (txtPut s.data.toList).length) c') ∧ OwnB w' w.heap.size a' (len + (txtPut s.data.toList).length) c' (bs ++ txtPut s.data.toList) ∧ Below w.heap.size w w' := by
  have hsl : s.data.toList.length = s.size := by rw [Array.length_toList]; rfl
  have hu := uvEnc_length s.size
  have HT : Hid (txtPut s.data.toList = uvEnc s.size ++ s.data.toList) := by unfold txtPut Hid; rw [hsl]
  have HSL : Hid (s.data.toList.length = s.size) := hsl
  clear hsl
  go_enter Try.func35, Try.ntmps35
  go_wp2_with (first
    | (go_at_call 49; refine (own_any _ _ _ bs _ _ h (by omega) (by omega)).mono ?_; rintro e w1 ⟨a1, c1, rfl, ho1, hb1⟩)
    | (go_at_call 48; refine (layUvarint_any w.heap.size _ _ _ bs s.size _ ho1 hb1.size (by omega) (by omega)).mono ?_; rintro e w2 ⟨a2, c2, rfl, ho2, hb2⟩)
    | (at_builtin; refine wpList_appS _ rfl _ _ rfl w.heap.size _ _ _ _ rfl ho2 s rfl (by omega) (Nat.le_trans hb1.size hb2.size) ?_))
  intro a3 c3 w3 ho3 hb3 _
  go_wp2
  go_ret
  rw [HT.out, List.length_append, HSL.out, ← Nat.add_assoc]
  exact ⟨a3, c3, ret1 rfl, ho3, (hb1.trans hb2).trans hb3⟩
end Go.Proofs.Ytiflepadjcpjjaa
