/- The contract of codec.Crc: for any bytes it returns the check sum that the plain function crc tells. -/
import Derived.Test.YtdhfimolgcnejaaTab
import Derived.Test.YtdhfimolgcnejaaOwn
namespace Go.Proofs.Ytdhfimolgcnejaa
open Go.RowKit
theorem and15_32 (x : Nat) (h : x < 4294967296) : bits .and .u32 (x : Int) 15 = ((x % 16 : Nat) : Int) := by
  have := nbits_and32 x 15 h (by omega)
  rw [show 15 = 2 ^ 4 - 1 from rfl, Nat.and_two_pow_sub_one_eq_mod] at this
  exact this
theorem compl32 (x : Nat) (h : x < 4294967296) : bits .xor .u32 IntKind.u32.max (x : Int) = ((4294967295 ^^^ x : Nat) : Int) := nbits_xor32 4294967295 x (by omega) h
/-- Half a byte's step, as the walk meets it. -/
theorem half_step (y : Nat) (hy : y < 4294967296) : ∃ m z : Nat, m < 16 ∧ z < 4294967296 ∧ bits .and .u32 (y : Int) 15 = (m : Int) ∧ bits .xor .u32 ((y : Int) / 16) ((nib m : Nat) : Int) = (z : Int) ∧ Hid (z = crcHalf y) :=
  ⟨y % 16, crcHalf y, by omega, crcHalf_lt hy, and15_32 y hy, nbits_xor32 (y / 16) (nib (y % 16)) (by omega) (nib_lt _ (by omega)), rfl⟩
theorem tabN_cell (w : World) (j : Nat) (hj : j < 16) : (w.alloc (.cells tabN 61)).cell? ⟨w.heap.size, j, none⟩ = some (.int .u32 (nib j : Nat)) := by
  have : ∀ j, j < 16 → tabN[j]? = some (.int .u32 (nib j : Nat)) := by
    intro j hj
    have : j = 0 ∨ j = 1 ∨ j = 2 ∨ j = 3 ∨ j = 4 ∨ j = 5 ∨ j = 6 ∨ j = 7 ∨ j = 8 ∨ j = 9 ∨ j = 10 ∨ j = 11 ∨ j = 12 ∨ j = 13 ∨ j = 14 ∨ j = 15 := by omega
    rcases this with rfl | rfl | rfl | rfl | rfl | rfl | rfl | rfl | rfl | rfl | rfl | rfl | rfl | rfl | rfl | rfl <;> rfl
  rw [← this j hj]
  simp [go_sem]
set_option maxRecDepth 100000 in
set_option maxHeartbeats 400000 in
theorem crc_any (a : Option Addr) (len cap : Nat) (bs : List UInt8) (w : World) (h : BsAt w a len cap bs) :
    Calls Try.prog 35 #[.slice a len cap] w fun e w' => e = .returned (.int .u32 (crc bs : Nat)) ∧ Below w.heap.size w w' := by
  have hcap := h.max
  have hle := h.le
  have hlen := h.size
  unfold maxLen at hcap
  go_enter Try.func35, Try.ntmps35
  go_wp2_with (go_at_call 37; refine (sumTable_any _).mono ?_; rintro e w1 ⟨rfl, hb1⟩; unfold tabN)
  have hsz := hb1.size
  go_loopw [4, 10] (fun s i wr => ∃ k x : Nat, k ≤ len ∧ x < 4294967296 ∧ i = .int .i64 k ∧ s = .int .u32 x ∧ Hid (x = crcGo 4294967295 (bs.take k)) ∧
      Hid (∀ j, j < 16 → wr.cell? ⟨w1.heap.size, j, none⟩ = some (.int .u32 (nib j : Nat))) ∧ Hid (BsAt wr a len cap bs) ∧ Hid (Below w.heap.size w wr)) (fun _ i _ => len - (intOf i).toNat)
  case atStart => exact ⟨0, 4294967295, Nat.zero_le _, by omega, rfl, rfl, by simp [Hid, crcGo], fun j hj => tabN_cell w1 j hj, (h.below (Nat.le_refl _) hb1).alloc _, hb1.alloc hsz _⟩
  case round =>
    obtain ⟨k, x, hk, hx, rfl, rfl, HR, HT, HA, HB⟩ := hrel
    clear h
    by_cases hlt : k < len
    · obtain ⟨b, off, rfl, hc⟩ := HA.out.here (by omega)
      have hck := hc k hlt
      have hc8 : (bs.getD k 0).toNat < 256 := UInt8.toNat_lt _
      have HS : Hid (crcGo 4294967295 (bs.take (k + 1)) = crcByte x (bs.getD k 0).toNat) := by rw [HR.out]; exact crcGo_take _ bs k (by omega)
      generalize hcd : (bs.getD k 0).toNat = c at hck hc8 HS
      clear hc hcd hlen
      obtain ⟨y, hy, hy1, HY⟩ : ∃ y : Nat, y < 4294967296 ∧ bits .xor .u32 (x : Int) (c : Int) = (y : Int) ∧ Hid (y = x ^^^ c) := ⟨x ^^^ c, xor32 hx (by omega), nbits_xor32 x c hx (by omega), rfl⟩
      obtain ⟨m1, z1, hm1, hz1, e1, e2, H1⟩ := half_step y hy
      obtain ⟨m2, z2, hm2, hz2, e3, e4, H2⟩ := half_step z1 hz1
      have t1 := HT.out m1 hm1
      have t2 := HT.out m2 hm2
      go_wp2
      go_roundw
      case rel => exact ⟨k + 1, z2, by omega, hz2, by go_num, rfl, by rw [HS.out, H2.out, H1.out, HY.out]; rfl, HT.out, HA.out, HB.out⟩
      case measure => simp [intOf]; omega
    · obtain rfl : k = len := by omega
      go_wp2
      go_ret
      have e : x = crcGo 4294967295 bs := by rw [HR.out, List.take_of_length_le (by omega)]
      exact ⟨ret1 (congrArg (Value.int .u32) (by rw [compl32 x hx, e]; rfl)), HB.out⟩
end Go.Proofs.Ytdhfimolgcnejaa
