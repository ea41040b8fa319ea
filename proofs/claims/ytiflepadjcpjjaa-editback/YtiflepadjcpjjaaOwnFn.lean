/- The contract of codec's own: a copy of bytes in new memory, with room behind. -/
import Derived.Test.YtiflepadjcpjjaaOwn
namespace Go.Proofs.Ytiflepadjcpjjaa
open Go.RowKit

set_option maxRecDepth 100000 in
set_option maxHeartbeats 400000 in
theorem own_any (a : Option Addr) (len cap : Nat) (bs : List UInt8) (room : Int) (w : World) (h : BsAt w a len cap bs) (h0 : 0 ≤ room) (hl : (len : Int) + room ≤ 140737488355328) :
    Calls Try.prog 49 #[.slice a len cap, .int .i64 room] w fun e w' => ∃ a' c', e = .returned (.slice a' len c') ∧ OwnB w' w.heap.size a' len c' bs ∧ Below w.heap.size w w' := by
  obtain ⟨r, rfl⟩ := Int.eq_ofNat_of_zero_le h0
  obtain ⟨i, hi, hz0, hz1, hz2⟩ := info_parts infoU8
  have HI : Hid (i.bytes = 1) := hz2
  have HZ1 : Hid (i.size = 1) := hz1
  have HZ0 : Hid (i.zero = some (.int .u8 0)) := hz0
  have HII : Hid (Try.prog.info? 5 = some i) := hi
  clear hi hz0 hz1 hz2
  go_enter Try.func49, Try.ntmps49
  go_wp2_with (first
    | (at_make; refine wpList_make_own _ rfl _ _ 28 rfl w.heap.size 5 i (.int .u8 0) 1 Try.underlying28 HII.out HZ0.out HZ1.out _ _ _ (len + r) rfl rfl (by omega) (by rw [HI.out]; omega) (by unfold maxLen; omega) (Nat.le_refl _) ?_))
  intro w1 hown hgrow
  have hb1 : Below w.heap.size w w1 := (Below.refl _ _).grown hgrow (Nat.le_refl _) (fun k hk => by cases hk)
  have ho : OwnB w1 w.heap.size (some ⟨w.heap.size, 0, none⟩) 0 (len + r) [] := ⟨rfl, hown⟩
  have hs1 := h.below (Nat.le_refl _) hb1
  have hsz := hb1.size
  clear hown hgrow
  go_wp2_with (first
    | (at_builtin; refine wpList_app _ rfl _ _ rfl w.heap.size _ 0 (len + r) [] rfl ho _ _ _ bs rfl hs1 (by omega) hsz ?_))
  intro a' c' w2 ho2 hb2 _
  go_wp2
  go_ret
  exact ⟨a', c', ret1 (by simp), by simpa using ho2, hb1.trans hb2⟩
end Go.Proofs.Ytiflepadjcpjjaa
