/- The contract of ikey.Behind. -/
import Derived.Test.YtleojljcidocjaaBetween
namespace Go.Proofs.Ytleojljcidocjaa
open Go.RowKit

theorem behind_yes {l : List UInt8} {k n : Nat} (hl : l.length = n) (h : low l = k) (hk : k < n) : behind l = raise l k := by
  unfold behind
  rw [if_neg (by omega), h]
theorem behind_no {l : List UInt8} {n : Nat} (hl : l.length = n) (h : low l = n) : behind l = l := by
  unfold behind
  rw [if_pos (by omega)]
set_option maxRecDepth 100000 in
set_option maxHeartbeats 1000000 in
theorem behind_any (s : ByteArray) (w : World) (hs : s.size ≤ 140737488351232) :
    Calls Try.prog 20 #[.string s] w fun e w' => e = .returned (.string (strOf (behind s.data.toList))) ∧ Below w.heap.size w w' := by
  have HSL : Hid (s.data.toList.length = s.size) := by unfold Hid; rw [Array.length_toList]; rfl
  go_enter Try.func20, Try.ntmps20
  go_wp2
  go_loop [6] (fun i => ∃ k : Nat, k ≤ s.size ∧ i = .int .i64 k ∧ Hid (low s.data.toList = k + low (s.data.toList.drop k))) (fun i => s.size - (intOf i).toNat)
  case atStart => exact ⟨0, Nat.zero_le _, rfl, by simp [Hid]⟩
  case round =>
    obtain ⟨k, hk, rfl, HR⟩ := hrel
    by_cases hlt : k < s.size
    · have hx := at_list s k hlt
      by_cases he : ((s[k].toNat : Int) != 255) = true
      · have HZ : Hid (low (s.data.toList.drop k) = 0) := low_here _ k (by rw [HSL.out]; exact hlt) (by rw [← hx]; simp at he; omega)
        clear hx
        go_wp2_with (go_at_call 30; refine (raised_any s k _ hlt hs).mono ?_; rintro e w2 ⟨rfl, hb2⟩)
        go_ret
        exact ⟨ret1 (by rw [behind_yes HSL.out (by rw [HR.out, HZ.out]; rfl) hlt]; rfl), hb2⟩
      · have he' : ((s[k].toNat : Int) != 255) = false := by simpa using he
        have HZ : Hid (low (s.data.toList.drop k) = 1 + low (s.data.toList.drop (k + 1))) := low_full _ k (by rw [HSL.out]; exact hlt) (by rw [← hx]; simp at he'; omega)
        clear hx
        go_wp2
        go_round
        case rel => exact ⟨k + 1, by omega, by go_num, by unfold Hid; rw [HR.out, HZ.out]; omega⟩
        case measure => simp [intOf]; omega
    · have HZ : Hid (low (s.data.toList.drop k) = 0) := low_end _ k (by rw [HSL.out]; omega)
      have hkn : k = s.size := by omega
      have HF : Hid (behind s.data.toList = s.data.toList) := behind_no HSL.out (by rw [HR.out, HZ.out, hkn]; rfl)
      clear hkn
      go_wp2
      go_ret
      rw [HF.out, strOf_self]
      exact ⟨ret1 rfl, Below.refl _ _⟩
end Go.Proofs.Ytleojljcidocjaa
