/- The contract of the document's own Fixed: for any bytes and any size it returns what the plain function fxRead tells. -/
import Derived.Test.YtjlmjgbkeibaiaaChecked
import Derived.Test.YtjlmjgbkeibaiaaBits
import Derived.Test.YtjlmjgbkeibaiaaPlain
import Derived.Test.YtjlmjgbkeibaiaaMem
namespace Go.Proofs.Ytjlmjgbkeibaiaa
open Go.RowKit

set_option maxRecDepth 100000 in
set_option maxHeartbeats 400000 in
theorem rfixed_any (a : Option Addr) (len cap : Nat) (bs : List UInt8) (size : Int) (w : World) (h : BsAt w a len cap bs) :
    Calls Try.prog 33 #[.slice a len cap, .int .i64 size] w fun e w' => e = .returned (.tuple #[.int .u64 ((fxRead bs size).1 : Nat), .int .i64 ((fxRead bs size).2 : Nat)]) ∧ w' = w := by
  have hcap := h.max
  have hle := h.le
  have hlen := h.size
  unfold maxLen at hcap
  by_cases hs : size < 1 ∨ 8 < size
  · have HE : Hid (fxRead bs size = (0, 1)) := by unfold fxRead Hid; rw [if_pos hs]
    by_cases h1 : size < 1
    · clear hs
      go_enter Try.func33, Try.ntmps33
      go_wp2
      go_ret2
      rw [HE.out]
      exact ⟨ret2 rfl rfl, rfl⟩
    · have h2 : 8 < size := by omega
      have h1' : decide (size < 1) = false := by simpa using h1
      clear hs
      go_enter Try.func33, Try.ntmps33
      go_wp2
      go_ret2
      rw [HE.out]
      exact ⟨ret2 rfl rfl, rfl⟩
  · have hs1 : 1 ≤ size := by omega
    have hs2 : size ≤ 8 := by omega
    have h1' : decide (size < 1) = false := by simp; omega
    have h2' : decide (8 < size) = false := by simp; omega
    obtain ⟨n, rfl⟩ : ∃ n : Nat, size = (n : Int) := ⟨size.toNat, by omega⟩
    by_cases hl : len < n
    · have HE : Hid (fxRead bs n = (0, 10)) := by unfold fxRead Hid; rw [if_neg hs, if_pos (by simp; omega)]
      clear hs
      go_enter Try.func33, Try.ntmps33
      go_wp2
      go_ret2
      rw [HE.out]
      exact ⟨ret2 rfl rfl, rfl⟩
    · have HE : Hid (fxRead bs n = (leNat (bs.take n), 0)) := by unfold fxRead Hid; rw [if_neg hs, if_neg (by simp; omega)]; simp
      obtain ⟨b, off, rfl, hc⟩ := h.here (by omega)
      have HL : Hid (bs.length = len) := hlen
      clear hs hlen h
      have HC : Hid (∀ j, j < len → w.cell? ⟨b, off + j, none⟩ = some (.int .u8 ((bs.getD j 0).toNat : Int))) := hc
      clear hc
      go_enter Try.func33, Try.ntmps33
      go_wp2
      go_loop [6, 7] (fun x i => ∃ k acc : Nat, k ≤ n ∧ i = .int .i64 ((k : Int) - 1) ∧ x = .int .u64 acc ∧ Hid (acc = leNat ((bs.take n).drop k))) (fun _ i => ((intOf i) + 1).toNat)
      case atStart => exact ⟨n, 0, Nat.le_refl _, rfl, rfl, by simp [Hid, leNat]⟩
      case round =>
        obtain ⟨k, acc, hk, rfl, rfl, HR⟩ := hrel
        by_cases hlt : 0 < k
        · obtain ⟨j, rfl⟩ : ∃ j, k = j + 1 := ⟨k - 1, by omega⟩
          have hck := HC.out j (by omega)
          have hc8 : (bs.getD j 0).toNat < 256 := UInt8.toNat_lt _
          have hs : leNat ((bs.take n).drop j) = (bs.getD j 0).toNat + 256 * leNat ((bs.take n).drop (j + 1)) := by
            rw [drop_cons (bs.take n) j (by have := HL.out; simp; omega)]
            simp [leNat, List.getD, show j < n by omega]
          have ha := leNat_lt64 ((bs.take n).drop j) (by simp; omega)
          rw [← HR.out] at hs
          rw [hs] at ha
          generalize hcd : (bs.getD j 0).toNat = c at hck hc8 hs ha
          have HS : Hid (leNat ((bs.take n).drop j) = c + 256 * acc) := hs
          clear hcd hs
          go_wp2
          go_round
          case rel =>
            exact ⟨j, c + 256 * acc, by omega, by go_num, congrArg (Value.int .u64) (by omega), HS.out.symm⟩
          case measure => simp [intOf]
        · obtain rfl : k = 0 := by omega
          go_wp2
          go_ret2
          rw [HE.out]
          exact ⟨ret2 (by rw [HR.out]; rfl) rfl, rfl⟩
end Go.Proofs.Ytjlmjgbkeibaiaa
