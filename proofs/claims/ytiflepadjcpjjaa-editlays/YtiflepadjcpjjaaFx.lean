/- The contract of codec.Fixed: for any bytes and any size it returns what the plain function fxRead tells. -/
import Derived.Test.YtiflepadjcpjjaaFits
namespace Go.Proofs.Ytiflepadjcpjjaa
open Go.RowKit

theorem fx_step (acc c k : Nat) (hc : c < 256) (ha : acc < 2 ^ (8 * k)) (hk : k ≤ 7) :
    bits .or .u64 (acc : Int) (IntKind.u64.wrap ((c : Int) * 2 ^ (8 * k))) = ((acc + c * 2 ^ (8 * k) : Nat) : Int) := by
  obtain ⟨h2, h3, h4⟩ := fx_or acc c k ha hk hc
  have e2 : IntKind.u64.wrap ((c : Int) * 2 ^ (8 * k)) = (((c * 2 ^ (8 * k)) % 18446744073709551616 : Nat) : Int) := by
    simp [IntKind.wrap, IntKind.bits, IntKind.signed]
  rw [e2, nbits_or64 _ _ h4 (Nat.mod_lt _ (by omega)), h2]

set_option maxRecDepth 100000 in
set_option maxHeartbeats 400000 in
theorem fixed_any (a : Option Addr) (len cap : Nat) (bs : List UInt8) (size : Int) (w : World) (h : BsAt w a len cap bs) :
    Calls Try.prog 62 #[.slice a len cap, .int .i64 size] w fun e w' => e = .returned (.tuple #[.int .u64 ((fxRead bs size).1 : Nat), .int .i64 ((fxRead bs size).2 : Nat)]) ∧ w' = w := by
  have hcap := h.max
  have hle := h.le
  have hlen := h.size
  unfold maxLen at hcap
  by_cases hs : size < 1 ∨ 8 < size
  · have HE : Hid (fxRead bs size = (0, 1)) := by unfold fxRead Hid; rw [if_pos hs]
    go_enter Try.func62, Try.ntmps62
    go_wp2_with (go_at_call 58; refine (fits_no _ _ hs).mono ?_; rintro e w' ⟨rfl, rfl⟩)
    go_ret2
    rw [HE.out]
    exact ⟨ret2 rfl rfl, rfl⟩
  · have hs1 : 1 ≤ size := by omega
    have hs2 : size ≤ 8 := by omega
    obtain ⟨n, rfl⟩ : ∃ n : Nat, size = (n : Int) := ⟨size.toNat, by omega⟩
    by_cases hl : len < n
    · have HE : Hid (fxRead bs n = (0, 10)) := by unfold fxRead Hid; rw [if_neg hs, if_pos (by simp; omega)]
      clear hs
      go_enter Try.func62, Try.ntmps62
      go_wp2_with (go_at_call 58; refine (fits_yes _ _ hs1 hs2).mono ?_; rintro e w' ⟨rfl, rfl⟩)
      go_ret2
      rw [HE.out]
      exact ⟨ret2 rfl rfl, rfl⟩
    · have HE : Hid (fxRead bs n = (leNat (bs.take n), 0)) := by unfold fxRead Hid; rw [if_neg hs, if_neg (by simp; omega)]; simp
      obtain ⟨b, off, rfl, hc⟩ := h.here (by omega)
      have HL : Hid (bs.length = len) := hlen
      clear hs hlen h
      have HC : Hid (∀ j, j < len → w.cell? ⟨b, off + j, none⟩ = some (.int .u8 ((bs.getD j 0).toNat : Int))) := hc
      clear hc
      go_enter Try.func62, Try.ntmps62
      go_wp2_with (go_at_call 58; refine (fits_yes _ _ hs1 hs2).mono ?_; rintro e w' ⟨rfl, rfl⟩)
      go_loop [6, 20] (fun x i => ∃ k acc : Nat, k ≤ n ∧ i = .int .i64 k ∧ x = .int .u64 acc ∧ Hid (acc = leNat (bs.take k))) (fun _ i => n - (intOf i).toNat)
      case atStart => exact ⟨0, 0, Nat.zero_le _, rfl, rfl, by simp [Hid, leNat]⟩
      case round =>
        obtain ⟨k, acc, hk, rfl, rfl, HR⟩ := hrel
        by_cases hlt : k < n
        · have hck := HC.out k (by omega)
          have hc8 : (bs.getD k 0).toNat < 256 := UInt8.toNat_lt _
          have hs := leNat_take_succ bs k (by have := HL.out; omega)
          have ha := leNat_take_lt bs k (by have := HL.out; omega)
          rw [← HR.out] at hs ha
          generalize hcd : (bs.getD k 0).toNat = c at hck hc8 hs
          have HS : Hid (leNat (bs.take (k + 1)) = acc + c * 2 ^ (8 * k)) := hs
          have HA : Hid (acc < 2 ^ (8 * k)) := ha
          clear hcd hs ha
          go_wp2
          go_round
          case rel =>
            exact ⟨k + 1, acc + c * 2 ^ (8 * k), by omega, by go_num, congrArg (Value.int .u64) (fx_step acc c k hc8 HA.out (by omega)), HS.out.symm⟩
          case measure => simp [intOf]; omega
        · go_wp2
          go_ret2
          rw [HE.out]
          have hkn : k = n := by omega
          exact ⟨ret2 (by rw [HR.out, hkn]; rfl) rfl, rfl⟩
end Go.Proofs.Ytiflepadjcpjjaa
