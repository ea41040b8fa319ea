/- The contract of codec.Text: for any bytes it returns the text, how many bytes it has, and the error that the plain function txtRead tells. -/
import Derived.Test.YtiflepadjcpjjaaUv
namespace Go.Proofs.Ytiflepadjcpjjaa
open Go.RowKit

set_option maxRecDepth 100000 in
set_option maxHeartbeats 400000 in
theorem text_any (a : Option Addr) (len cap : Nat) (bs : List UInt8) (w : World) (h : BsAt w a len cap bs) :
    Calls Try.prog 55 #[.slice a len cap] w fun e w' => e = .returned (.tuple #[.string (strOf (txtRead bs).1), .int .i64 ((txtRead bs).2.1 : Nat), .int .i64 ((txtRead bs).2.2 : Nat)]) ∧ w' = w := by
  have hcap := h.max
  have hle := h.le
  have hlen := h.size
  unfold maxLen at hcap
  have hok := uvRead_ok bs
  generalize hr : uvRead bs = r at hok
  obtain ⟨n, k, er⟩ := r
  simp only at hok
  obtain ⟨hn, hok⟩ := hok
  have HT : Hid (uvRead bs = (n, k, er)) := hr
  have HL : Hid (bs.length = len) := hlen
  clear hr hlen
  by_cases he : er = 0
  · subst he
    have hk : 0 < k ∧ k ≤ len ∧ k ≤ 10 := by have := HL.out; omega
    clear hok
    obtain ⟨b, off, rfl, hc⟩ := h.here (by omega)
    clear hc
    by_cases hnl : n ≤ len - k
    · have HE : Hid (txtRead bs = ((bs.drop k).take n, k + n, 0)) := txtRead_yes HT.out (by have := HL.out; omega)
      have h64 : n ≤ 2 ^ 63 - 1 - k := by omega
      by_cases hck : k < cap
      · have hcv := (h.sub k n (by omega)).asStr (P := Try.prog) (dst := 9) Try.underlying28 Try.underlying5 Try.underlying9
        go_enter Try.func55, Try.ntmps55
        go_wp2_with (go_at_call 54; refine (uvarint_eq h HT.out).mono ?_; rintro e w' ⟨rfl, rfl⟩)
        go_ret3
        rw [HE.out]
        exact ⟨ret3 rfl rfl rfl, rfl⟩
      · obtain rfl : cap = k := by omega
        obtain rfl : n = 0 := by omega
        have hcv := (BsAt.empty (w := w) ⟨b, off, none⟩ 0 (Nat.zero_le _)).asStr (P := Try.prog) (dst := 9) Try.underlying28 Try.underlying5 Try.underlying9
        go_enter Try.func55, Try.ntmps55
        go_wp2_with (go_at_call 54; refine (uvarint_eq h HT.out).mono ?_; rintro e w' ⟨rfl, rfl⟩)
        go_ret3
        rw [HE.out]
        exact ⟨ret3 rfl rfl rfl, rfl⟩
    · have HE : Hid (txtRead bs = ([], 0, 10)) := txtRead_short HT.out (by have := HL.out; omega)
      go_enter Try.func55, Try.ntmps55
      go_wp2_with (go_at_call 54; refine (uvarint_eq h HT.out).mono ?_; rintro e w' ⟨rfl, rfl⟩)
      all_goals
        go_ret3
        rw [HE.out]
        exact ⟨ret3 rfl rfl rfl, rfl⟩
  · have HE : Hid (txtRead bs = ([], 0, er)) := txtRead_err HT.out he
    have he' : ((er : Int) != 0) = true := by simp; omega
    go_enter Try.func55, Try.ntmps55
    go_wp2_with (go_at_call 54; refine (uvarint_eq h HT.out).mono ?_; rintro e w' ⟨rfl, rfl⟩)
    go_ret3
    rw [HE.out]
    exact ⟨ret3 rfl rfl rfl, rfl⟩
end Go.Proofs.Ytiflepadjcpjjaa
