/- The contract of codec.Uvarint: for any bytes it returns the number, how many bytes it has, and the error that the plain function uvRead tells. -/
import Derived.Test.YtiflepadjcpjjaaChecked
import Derived.Test.YtiflepadjcpjjaaBits
import Derived.Test.YtiflepadjcpjjaaPlain
import Derived.Test.YtiflepadjcpjjaaMem
namespace Go.Proofs.Ytiflepadjcpjjaa
open Go.RowKit

theorem uv_step (acc c k : Nat) (hc : c < 256) (ha : acc < 2 ^ (7 * k)) (hk : k ≤ 9) (h1 : k = 9 → c % 128 ≤ 1) :
    bits .or .u64 (acc : Int) (IntKind.u64.wrap (IntKind.u64.wrap (bits .andNot .u8 (c : Int) 128) * 2 ^ (7 * k))) = ((acc + c % 128 * 2 ^ (7 * k) : Nat) : Int) := by
  have e1 := nbits_andNot8_128 ⟨c, hc⟩
  simp only at e1
  obtain ⟨h2, h3, h4⟩ := uv_or acc c k ha hk h1
  have e0 : IntKind.u64.wrap ((c % 128 : Nat) : Int) = ((c % 128 : Nat) : Int) := by simp [IntKind.wrap, IntKind.bits, IntKind.signed]; omega
  have e2 : IntKind.u64.wrap (((c % 128 : Nat) : Int) * 2 ^ (7 * k)) = (((c % 128 * 2 ^ (7 * k)) % 18446744073709551616 : Nat) : Int) := by
    simp [IntKind.wrap, IntKind.bits, IntKind.signed]
  rw [e1, e0, e2, nbits_or64 _ _ h4 (Nat.mod_lt _ (by omega)), h2]

set_option maxRecDepth 100000 in
set_option maxHeartbeats 400000 in
theorem uvarint_any (a : Option Addr) (len cap : Nat) (bs : List UInt8) (w : World) (h : BsAt w a len cap bs) :
    Calls Try.prog 54 #[.slice a len cap] w fun e w' => e = .returned (.tuple #[.int .u64 ((uvRead bs).1 : Nat), .int .i64 ((uvRead bs).2.1 : Nat), .int .i64 ((uvRead bs).2.2 : Nat)]) ∧ w' = w := by
  have hcap := h.max
  have hle := h.le
  have hlen := h.size
  unfold maxLen at hcap
  go_enter Try.func54, Try.ntmps54
  go_wp2
  go_loop [2, 9] (fun n i => ∃ k acc : Nat, k ≤ len ∧ k ≤ 9 ∧ i = .int .i64 k ∧ n = .int .u64 acc ∧ Hid (acc < 2 ^ (7 * k) ∧ uvRead bs = uvGo k acc (bs.drop k))) (fun _ i => len - (intOf i).toNat)
  case atStart => exact ⟨0, 0, Nat.zero_le _, by omega, rfl, rfl, by simp, rfl⟩
  case round =>
    obtain ⟨k, acc, hk, hk9, rfl, rfl, HR⟩ := hrel
    by_cases hlt : k < len
    · obtain ⟨b, off, rfl, hc⟩ := h.here (by omega)
      have hck := hc k hlt
      have hc8 : (bs.getD k 0).toNat < 256 := UInt8.toNat_lt _
      generalize hcd : (bs.getD k 0).toNat = c at hck hc8
      have HC : Hid ((bs.getD k 0).toNat = c) := hcd
      have HB : Hid (k < bs.length) := by unfold Hid; omega
      clear hc hcd hlen h
      by_cases h9 : 9 ≤ k
      · have h9' : ((k : Int) == 9) = true := by simp; omega
        by_cases h1 : 1 < c
        · go_wp2
          go_ret3
          have e := HR.out.2.trans (uvGo_at_long bs k acc HB.out (by omega) (by rw [HC.out]; exact h1))
          rw [e]
          exact ⟨rfl, rfl⟩
        · have h128 : c < 128 := by omega
          go_wp2
          go_ret3
          have e := HR.out.2.trans (uvGo_at_last bs k acc HB.out (by rw [HC.out]; omega) (by rw [HC.out]; exact h128))
          have e2 := uv_step acc c k hc8 HR.out.1 hk9 (by omega)
          rw [e, HC.out]
          exact ⟨ret3 (congrArg (Value.int .u64) e2) rfl rfl, rfl⟩
      · have h9' : ((k : Int) == 9) = false := by simp; omega
        by_cases h128 : c < 128
        · go_wp2
          go_ret3
          have e := HR.out.2.trans (uvGo_at_last bs k acc HB.out (by rw [HC.out]; omega) (by rw [HC.out]; exact h128))
          rw [e, HC.out]
          have e2 := uv_step acc c k hc8 HR.out.1 hk9 (by omega)
          exact ⟨ret3 (congrArg (Value.int .u64) e2) rfl rfl, rfl⟩
        · go_wp2
          go_round
          case rel =>
            have e := HR.out.2.trans (uvGo_at_more bs k acc HB.out (by rw [HC.out]; omega) (by rw [HC.out]; exact h128))
            rw [HC.out] at e
            have e2 := uv_step acc c k hc8 HR.out.1 hk9 (by omega)
            exact ⟨k + 1, acc + c % 128 * 2 ^ (7 * k), by omega, by omega, by go_num, congrArg (Value.int .u64) e2, uv_next acc c k HR.out.1, e⟩
          case measure => simp [intOf]; omega
    · go_wp2
      go_ret3
      have e := HR.out.2.trans (uvGo_at_nil bs k acc (by omega))
      rw [e]
      exact ⟨rfl, rfl⟩

theorem uvarint_eq {a : Option Addr} {len cap : Nat} {bs : List UInt8} {w : World} (h : BsAt w a len cap bs) {n k er : Nat} (hr : uvRead bs = (n, k, er)) :
    Calls Try.prog 54 #[.slice a len cap] w fun e w' => e = .returned (.tuple #[.int .u64 (n : Nat), .int .i64 (k : Nat), .int .i64 (er : Nat)]) ∧ w' = w := by
  have := uvarint_any a len cap bs w h
  rw [hr] at this
  exact this
end Go.Proofs.Ytiflepadjcpjjaa
