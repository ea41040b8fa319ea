/- The contract of codec's PutUvarint: what it lays behind bytes, in new memory. -/
import Derived.Test.YtiflepadjcpjjaaOwnFn
import Derived.Test.YtiflepadjcpjjaaLayUv
namespace Go.Proofs.Ytiflepadjcpjjaa
open Go.RowKit

set_option maxRecDepth 100000 in
set_option maxHeartbeats 400000 in
theorem putUvarint_any (a : Option Addr) (len cap : Nat) (bs : List UInt8) (n : Nat) (w : World) (h : BsAt w a len cap bs) (hn : n < 18446744073709551616) (hl : len + 10 ≤ 140737488355328) :
    Calls Try.prog 33 #[.slice a len cap, .int .u64 (n : Int)] w fun e w' => ∃ a' c', e = .returned (.slice a' (len + (uvEnc n).length) c') ∧ OwnB w' w.heap.size a' (len + (uvEnc n).length) c' (bs ++ uvEnc n) ∧ Below w.heap.size w w' := by
  go_enter Try.func33, Try.ntmps33
  go_wp2_with (go_at_call 49; refine (own_any _ _ _ bs 10 _ h (by omega) (by omega)).mono ?_; rintro e w1 ⟨a1, c1, rfl, ho1, hb1⟩)
  have hsz := hb1.size
  go_wp2_with (go_at_call 48; refine (layUvarint_any w.heap.size _ _ _ bs n _ ho1 hsz hn hl).mono ?_; rintro e w2 ⟨a2, c2, rfl, ho2, hb2⟩)
  go_ret
  exact ⟨a2, c2, ret1 (by simp), ho2, hb1.trans hb2⟩

end Go.Proofs.Ytiflepadjcpjjaa
