/- The contract of the document's own PutFixed: what it lays behind bytes, in new memory. -/
import Derived.Test.YtiflepadjcpjjaaOwn
import Derived.Test.YtiflepadjcpjjaaBits
import Derived.Test.YtiflepadjcpjjaaPlainPut
namespace Go.Proofs.Ytiflepadjcpjjaa
open Go.RowKit

theorem pow8_succ (n j : Nat) : n / 2 ^ (8 * j) / 256 = n / 2 ^ (8 * (j + 1)) := by
  rw [Nat.div_div_eq_div_mul, show 8 * (j + 1) = 8 * j + 8 by omega, Nat.pow_add]
set_option maxRecDepth 100000 in
set_option maxHeartbeats 400000 in
theorem rputFixed_any (a : Option Addr) (len cap : Nat) (bs : List UInt8) (n : Nat) (size : Int) (w : World) (h : BsAt w a len cap bs) (hn : n < 18446744073709551616) (hl : len + 10 ≤ 140737488355328) :
    Calls Try.prog 37 #[.slice a len cap, .int .u64 (n : Int), .int .i64 size] w fun e w' => ∃ a' c', e = .returned (.slice a' (len + (fxPut n size).length) c') ∧ OwnB w' w.heap.size a' (len + (fxPut n size).length) c' (bs ++ fxPut n size) ∧ Below w.heap.size w w' := by
  by_cases hs : size < 1 ∨ 8 < size
  · have HE : Hid (fxPut n size = []) := by unfold fxPut Hid; rw [if_pos hs]
    by_cases h1 : size < 1
    · clear hs
      go_enter Try.func37, Try.ntmps37
      go_wp2_with (at_builtin; refine wpList_app0 w rfl _ _ rfl rfl _ _ _ bs rfl h (by omega) ?_; intro a0 c0 w0 ho0 hb0)
      go_ret
      rw [HE.out]
      exact ⟨a0, c0, ret1 (by simp), by simpa using ho0, hb0⟩
    · have h2 : 8 < size := by omega
      have h1' : decide (size < 1) = false := by simpa using h1
      clear hs
      go_enter Try.func37, Try.ntmps37
      go_wp2_with (at_builtin; refine wpList_app0 w rfl _ _ rfl rfl _ _ _ bs rfl h (by omega) ?_; intro a0 c0 w0 ho0 hb0)
      go_ret
      rw [HE.out]
      exact ⟨a0, c0, ret1 (by simp), by simpa using ho0, hb0⟩
  · have hs1 : 1 ≤ size := by omega
    have hs2 : size ≤ 8 := by omega
    have h1' : decide (size < 1) = false := by simp; omega
    have h2' : decide (8 < size) = false := by simp; omega
    obtain ⟨k, rfl⟩ : ∃ k : Nat, size = (k : Int) := ⟨size.toNat, by omega⟩
    have HE : Hid (fxPut n k = fxEnc n k) := by unfold fxPut Hid; rw [if_neg hs]; simp
    clear hs
    go_enter Try.func37, Try.ntmps37
    go_wp2_with (at_builtin; refine wpList_app0 w rfl _ _ rfl rfl _ _ _ bs rfl h (by omega) ?_; intro a0 c0 w0 ho0 hb0)
    go_loopw [7, 1, 8] (fun v x i wr => ∃ (a3 : Option Addr) (c3 j m : Nat), j ≤ k ∧ m < 18446744073709551616 ∧ v = .slice a3 (len + j) c3 ∧ x = .int .u64 m ∧ i = .int .i64 j ∧ Hid (m = n / 2 ^ (8 * j)) ∧ Hid (OwnB wr w.heap.size a3 (len + j) c3 (bs ++ fxEnc n j)) ∧ Hid (Below w.heap.size w wr)) (fun _ _ i _ => k - (intOf i).toNat)
    case atStart => exact ⟨a0, c0, 0, n, by omega, hn, rfl, rfl, rfl, by simp [Hid], by simpa [fxEnc, Hid] using ho0, hb0⟩
    case round =>
      obtain ⟨a3, c3, j, m, hj, hm, rfl, rfl, rfl, HM, HO, HB⟩ := hrel
      have hsr := HB.out.size
      by_cases hlt : j < k
      · go_wp2_with (first
          | (at_builtin; refine wpList_app _ rfl _ _ rfl w.heap.size _ _ _ (bs ++ fxEnc n j) rfl (HO.out.alloc _) _ _ _ [loByte (n / 2 ^ (8 * j))] rfl (BsAt.one (by rw [loByte_toNat, ← HM.out]; omega)) (by omega) (by simp; omega) ?_))
        intro a4 c4 w4 ho4 hb4 _
        have HO4 : Hid (OwnB w4 w.heap.size a4 (len + j + 1) c4 (bs ++ (fxEnc n j ++ [loByte (n / 2 ^ (8 * j))]))) := by unfold Hid; simpa using ho4
        have HB4 : Hid (Below w.heap.size w w4) := (HB.out.alloc hsr _).trans hb4
        clear ho4 hb4
        go_wp2
        go_roundw
        case rel => exact ⟨a4, c4, j + 1, m / 256, by omega, by omega, rfl, by go_num, by go_num, by rw [HM.out]; exact pow8_succ n j, HO4.out, HB4.out⟩
        case measure => simp [intOf]; omega
      · obtain rfl : j = k := by omega
        go_wp2
        go_ret
        rw [HE.out, fxEnc_length]
        exact ⟨a3, c3, ret1 rfl, HO.out, HB.out⟩
end Go.Proofs.Ytiflepadjcpjjaa
