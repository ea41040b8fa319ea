/- The contracts of the document's own check sum, and of both pairs of masks. -/
import Derived.Test.YtdhfimolgcnejaaCrc
import Derived.Test.YtdhfimolgcnejaaPlainRef
namespace Go.Proofs.Ytdhfimolgcnejaa
open Go.RowKit

set_option maxRecDepth 100000 in
set_option maxHeartbeats 400000 in
theorem turned_any (n k : Nat) (w : World) (hn : n < 4294967296) (hk : k ≤ 32) :
    Calls Try.prog 31 #[.int .u32 (n : Int), .int .i64 (k : Int)] w fun e w' => e = .returned (.int .u32 (rv k n 0 : Nat)) ∧ w' = w := by
  go_enter Try.func31, Try.ntmps31
  go_wp2
  go_loop [0, 5, 6] (fun x y i => ∃ j m o : Nat, j ≤ k ∧ m < 4294967296 ∧ o < 2 ^ j ∧ i = .int .i64 j ∧ x = .int .u32 m ∧ y = .int .u32 o ∧ Hid (rv k n 0 = rv (k - j) m o)) (fun _ _ i => k - (intOf i).toNat)
  case atStart => exact ⟨0, n, 0, by omega, hn, by simp, rfl, rfl, rfl, rfl⟩
  case round =>
    obtain ⟨j, m, o, hj, hm, ho, rfl, rfl, rfl, HR⟩ := hrel
    by_cases hlt : j < k
    · have HO : Hid (o < 2 ^ j) := ho
      have ho2 : o * 2 + m % 2 < 4294967296 := by
        have h1 : 2 ^ (j + 1) ≤ 2 ^ 32 := Nat.pow_le_pow_right (by omega) (by omega)
        rw [Nat.pow_succ] at h1
        omega
      clear ho
      go_wp2
      go_round
      case rel => exact ⟨j + 1, m / 2, o * 2 + m % 2, by omega, by omega, by have := HO.out; rw [Nat.pow_succ]; omega, by go_num, by go_num, by go_num, by rw [HR.out, show k - j = (k - (j + 1)) + 1 by omega, rv]; rfl⟩
      case measure => simp [intOf]; omega
    · obtain rfl : j = k := by omega
      clear ho
      go_wp2
      go_ret
      exact ⟨ret1 (by rw [HR.out, Nat.sub_self]; rfl), rfl⟩

theorem rstep (y : Nat) (ht : y / 2147483648 = 1) : bits .xor .u32 ((y : Int) * 2 % 4294967296) 517762881 = ((m1 y : Nat) : Int) := by
  have := nbits_xor32 (y * 2 % 4294967296) 517762881 (Nat.mod_lt _ (by omega)) (by omega)
  unfold m1
  rw [if_pos ht, ← this]
  rfl
set_option maxRecDepth 100000 in
set_option maxHeartbeats 400000 in
theorem rcrc_any (a : Option Addr) (len cap : Nat) (bs : List UInt8) (w : World) (h : BsAt w a len cap bs) :
    Calls Try.prog 25 #[.slice a len cap] w fun e w' => e = .returned (.int .u32 (crc bs : Nat)) ∧ w' = w := by
  have hcap := h.max
  have hle := h.le
  have hlen := h.size
  unfold maxLen at hcap
  go_enter Try.func25, Try.ntmps25
  go_wp2
  go_loop [3, 4] (fun s i => ∃ k y : Nat, k ≤ len ∧ y < 4294967296 ∧ i = .int .i64 k ∧ s = .int .u32 y ∧ Hid (y = rev (crcGo 4294967295 (bs.take k)))) (fun _ i => len - (intOf i).toNat)
  case atStart => exact ⟨0, 4294967295, Nat.zero_le _, by omega, rfl, rfl, by rw [List.take_zero]; exact rev_all.symm⟩
  case round =>
    obtain ⟨k, y, hk, hy, rfl, rfl, HR⟩ := hrel
    by_cases hlt : k < len
    · obtain ⟨b, off, rfl, hc⟩ := h.here (by omega)
      have hck := hc k hlt
      have hc8 : (bs.getD k 0).toNat < 256 := UInt8.toNat_lt _
      have HS : Hid (rcByte y (bs.getD k 0).toNat = rev (crcGo 4294967295 (bs.take (k + 1)))) := by
        unfold Hid
        rw [HR.out, crcGo_take _ bs k (by omega)]
        exact rcByte_eq _ _ (crcGo_lt _ (by omega)) hc8
      generalize hcd : (bs.getD k 0).toNat = c at hck hc8 HS
      clear hc hcd hlen h
      have hr8 : rv 8 c 0 < 256 := rv_lt 8 c 0 0 (by simp)
      obtain ⟨z, hz, hx, HZ⟩ : ∃ z : Nat, z < 4294967296 ∧ bits .xor .u32 (y : Int) ((rv 8 c 0 : Nat) * 16777216) = (z : Int) ∧ Hid (z = y ^^^ rv 8 c 0 * 16777216) :=
        ⟨y ^^^ rv 8 c 0 * 16777216, xor32 hy (by omega), nbits_xor32 y (rv 8 c 0 * 16777216) hy (by omega), rfl⟩
      go_wp2_with (go_at_call 31; refine (turned_any c 8 _ (by omega) (by omega)).mono ?_; rintro e w1 ⟨rfl, rfl⟩)
      go_loop [3, 5] (fun s i => ∃ j x : Nat, j ≤ 8 ∧ x < 4294967296 ∧ i = .int .i64 j ∧ s = .int .u32 x ∧ Hid (x = m1it j z)) (fun _ i => 8 - (intOf i).toNat)
      case atStart => exact ⟨0, z, by omega, hz, rfl, rfl, rfl⟩
      case round =>
        obtain ⟨j, x, hj, hx0, rfl, rfl, HJ⟩ := hrel
        clear hx
        by_cases hlt8 : j < 8
        · by_cases ht : x / 2147483648 = 1
          · have ht' : ((x : Int) / 2147483648 == 1) = true := by simp; omega
            have HX : Hid (bits .xor .u32 ((x : Int) * 2 % 4294967296) 517762881 = ((m1 x : Nat) : Int)) := rstep x ht
            clear ht
            go_wp2
            go_round
            case rel => exact ⟨j + 1, m1 x, by omega, m1_lt x, by go_num, congrArg (Value.int .u32) HX.out, by rw [HJ.out]; rfl⟩
            case measure => simp [intOf]; omega
          · have ht' : ((x : Int) / 2147483648 == 1) = false := by simp; omega
            have HX : Hid (((x : Int) * 2 % 4294967296) = ((m1 x : Nat) : Int)) := by unfold m1 Hid; rw [if_neg ht]; rfl
            clear ht
            go_wp2
            go_round
            case rel => exact ⟨j + 1, m1 x, by omega, m1_lt x, by go_num, congrArg (Value.int .u32) HX.out, by rw [HJ.out]; rfl⟩
            case measure => simp [intOf]; omega
        · obtain rfl : j = 8 := by omega
          go_wp2
          go_round
          case rel => exact ⟨k + 1, x, by omega, hx0, by go_num, rfl, by rw [← HS.out, HJ.out, HZ.out]; rfl⟩
          case measure => simp [intOf]; omega
    · obtain rfl : k = len := by omega
      have hx : bits .xor .u32 4294967295 (y : Int) = ((4294967295 ^^^ y : Nat) : Int) := nbits_xor32 4294967295 y (by omega) hy
      have hx2 : 4294967295 ^^^ y < 4294967296 := xor32 (by omega) hy
      generalize hq : 4294967295 ^^^ y = q at hx hx2
      have HQ : Hid (4294967295 ^^^ y = q) := hq
      clear hq
      go_wp2_with (go_at_call 31; refine (turned_any q 32 _ hx2 (by omega)).mono ?_; rintro e w1 ⟨rfl, rfl⟩)
      go_ret
      refine ⟨ret1 (congrArg (fun n : Nat => Value.int .u32 (n : Int)) ?_), rfl⟩
      have e := rc_end (crcGo 4294967295 bs) (crcGo_lt _ (by omega))
      have ey : y = rev (crcGo 4294967295 bs) := by rw [HR.out, List.take_of_length_le (by omega)]
      rw [← ey, HQ.out] at e
      exact e

set_option maxHeartbeats 400000 in
theorem mask_any (n : Nat) (w : World) (h : n < 4294967296) :
    Calls Try.prog 34 #[.int .u32 (n : Int)] w fun e w' => e = .returned (.int .u32 (maskN n : Nat)) ∧ w' = w := by
  have HX : Hid (bits .or .u32 ((n : Int) / 32768) ((n : Int) * 131072 % 4294967296) = ((n / 32768 + n % 32768 * 131072 : Nat) : Int)) := by
    have := nbits_or32 (n / 32768) (n * 131072 % 4294967296) (by omega) (Nat.mod_lt _ (by omega))
    rw [mask_or n h] at this
    exact this
  go_enter Try.func34, Try.ntmps34
  go_wp2
  go_ret
  exact ⟨ret1 (congrArg (Value.int .u32) (by rw [HX.out]; unfold maskN; omega)), rfl⟩
set_option maxHeartbeats 400000 in
theorem rmask_any (n : Nat) (w : World) (_h : n < 4294967296) :
    Calls Try.prog 24 #[.int .u32 (n : Int)] w fun e w' => e = .returned (.int .u32 (maskN n : Nat)) ∧ w' = w := by
  go_enter Try.func24, Try.ntmps24
  go_wp2
  go_ret
  exact ⟨ret1 (congrArg (Value.int .u32) (by unfold maskN; omega)), rfl⟩
end Go.Proofs.Ytdhfimolgcnejaa
