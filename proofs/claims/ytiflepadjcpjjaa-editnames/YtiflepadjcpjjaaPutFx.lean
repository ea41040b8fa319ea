/- The contract of codec.PutFixed: what it lays behind bytes, in new memory. -/
import Derived.Test.YtiflepadjcpjjaaOwnFn
import Derived.Test.YtiflepadjcpjjaaFits
import Derived.Test.YtiflepadjcpjjaaPlainPut
namespace Go.Proofs.Ytiflepadjcpjjaa
open Go.RowKit

set_option maxRecDepth 100000 in
set_option maxHeartbeats 400000 in
theorem putFixed_any (a : Option Addr) (len cap : Nat) (bs : List UInt8) (n : Nat) (size : Int) (w : World) (h : BsAt w a len cap bs) (_hn : n < 18446744073709551616) (hl : len + 10 ≤ 140737488355328) :
    Calls Try.prog 50 #[.slice a len cap, .int .u64 (n : Int), .int .i64 size] w fun e w' => ∃ a' c', e = .returned (.slice a' (len + (fxPut n size).length) c') ∧ OwnB w' w.heap.size a' (len + (fxPut n size).length) c' (bs ++ fxPut n size) ∧ Below w.heap.size w w' := by
  by_cases hs : size < 1 ∨ 8 < size
  · have HE : Hid (fxPut n size = []) := by unfold fxPut Hid; rw [if_pos hs]
    go_enter Try.func50, Try.ntmps50
    go_wp2_with (first
      | (go_at_call 58; refine (fits_no _ _ hs).mono ?_; rintro e w1 ⟨rfl, rfl⟩)
      | (go_at_call 49; refine (own_any _ _ _ bs 0 _ h (by omega) (by omega)).mono ?_; rintro e w2 ⟨a2, c2, rfl, ho2, hb2⟩))
    go_ret
    rw [HE.out]
    exact ⟨a2, c2, ret1 (by simp), by simpa using ho2, hb2⟩
  · have hs1 : 1 ≤ size := by omega
    have hs2 : size ≤ 8 := by omega
    obtain ⟨k, rfl⟩ : ∃ k : Nat, size = (k : Int) := ⟨size.toNat, by omega⟩
    have HE : Hid (fxPut n k = fxEnc n k) := by unfold fxPut Hid; rw [if_neg hs]; simp
    clear hs
    go_enter Try.func50, Try.ntmps50
    go_wp2_with (first
      | (go_at_call 58; refine (fits_yes _ _ hs1 hs2).mono ?_; rintro e w1 ⟨rfl, rfl⟩)
      | (go_at_call 49; refine (own_any _ _ _ bs _ _ h (by omega) (by omega)).mono ?_; rintro e w2 ⟨a2, c2, rfl, ho2, hb2⟩))
    have hsz := hb2.size
    go_loopw [7, 18] (fun v i wr => ∃ (a3 : Option Addr) (c3 j : Nat), j ≤ k ∧ v = .slice a3 (len + j) c3 ∧ i = .int .i64 j ∧ Hid (OwnB wr w1.heap.size a3 (len + j) c3 (bs ++ fxEnc n j)) ∧ Hid (Below w1.heap.size w1 wr)) (fun _ i _ => k - (intOf i).toNat)
    case atStart => exact ⟨a2, c2, 0, by omega, rfl, rfl, by simpa [fxEnc, Hid] using ho2, hb2⟩
    case round =>
      obtain ⟨a3, c3, j, hj, rfl, rfl, HO, HB⟩ := hrel
      have hsr := HB.out.size
      by_cases hlt : j < k
      · go_wp2_with (first
          | (at_builtin; refine wpList_app _ rfl _ _ rfl w1.heap.size _ _ _ (bs ++ fxEnc n j) rfl (HO.out.alloc _) _ _ _ [loByte (n / 2 ^ (8 * j))] rfl (BsAt.one (by rw [loByte_toNat]; simp)) (by omega) (by simp; omega) ?_))
        intro a4 c4 w4 ho4 hb4 _
        have HO4 : Hid (OwnB w4 w1.heap.size a4 (len + j + 1) c4 (bs ++ (fxEnc n j ++ [loByte (n / 2 ^ (8 * j))]))) := by unfold Hid; simpa using ho4
        have HB4 : Hid (Below w1.heap.size w1 w4) := (HB.out.alloc hsr _).trans hb4
        clear ho4 hb4
        go_wp2
        go_roundw
        case rel => exact ⟨a4, c4, j + 1, by omega, rfl, by go_num, HO4.out, HB4.out⟩
        case measure => simp [intOf]; omega
      · obtain rfl : j = k := by omega
        go_wp2
        go_ret
        rw [HE.out, fxEnc_length]
        exact ⟨a3, c3, ret1 rfl, HO.out, HB.out⟩
end Go.Proofs.Ytiflepadjcpjjaa
