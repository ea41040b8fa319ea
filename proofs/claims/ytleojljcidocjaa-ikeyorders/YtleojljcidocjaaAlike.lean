/- The contract of ikey's alike: how many bytes two texts both begin with. -/
import Derived.Test.YtleojljcidocjaaPlainShort
namespace Go.Proofs.Ytleojljcidocjaa
open Go.RowKit

set_option maxRecDepth 100000 in
set_option maxHeartbeats 1000000 in
theorem alike_any (s t : ByteArray) (w : World) (hs : s.size ≤ 140737488351232) (_ht : t.size ≤ 140737488351232) :
    Calls Try.prog 29 #[.string s, .string t] w fun e w' => e = .returned (.int .i64 ((lcp s.data.toList t.data.toList : Nat) : Int)) ∧ Below w.heap.size w w' := by
  have HSL : Hid (s.data.toList.length = s.size) := by unfold Hid; rw [Array.length_toList]; rfl
  have HTL : Hid (t.data.toList.length = t.size) := by unfold Hid; rw [Array.length_toList]; rfl
  obtain ⟨n, hn⟩ : ∃ n : Nat, n = min s.size t.size := ⟨_, rfl⟩
  have hn1 : n ≤ s.size := by omega
  have hn2 : n ≤ t.size := by omega
  have HN : Hid (n = s.size ∨ n = t.size) := by unfold Hid; omega
  have hmn : (Builtin.min_ #[3, 3] 3 #[.int .i64 (s.size : Int), .int .i64 (t.size : Int)]).run Try.prog w = .ok (.int .i64 (n : Int)) w := by
    rw [run_min_int2]
    by_cases h : (t.size : Int) < s.size
    · rw [if_pos h, show n = t.size by omega]
    · rw [if_neg h, show n = s.size by omega]
  clear hn
  go_enter Try.func29, Try.ntmps29
  go_wp2
  go_loopw [13] (fun i wr => ∃ k : Nat, k ≤ n ∧ i = .int .i64 k ∧ Hid (lcp s.data.toList t.data.toList = k + lcp (s.data.toList.drop k) (t.data.toList.drop k)) ∧ Hid (Below w.heap.size w wr)) (fun i _ => n - (intOf i).toNat)
  case atStart => exact ⟨0, Nat.zero_le _, rfl, by simp [Hid], Below.refl _ _⟩
  case round =>
    obtain ⟨k, hk, rfl, HR, HB⟩ := hrel
    by_cases hlt : k < n
    · have hk1 : k < s.size := by omega
      have hk2 : k < t.size := by omega
      have hx := at_list s k hk1
      have hy := at_list t k hk2
      by_cases he : ((s[k].toNat : Int) != (t[k].toNat : Int)) = true
      · have HZ : Hid (lcp (s.data.toList.drop k) (t.data.toList.drop k) = 0) := lcp_other _ _ k (by rw [HSL.out]; exact hk1) (by rw [HTL.out]; exact hk2) (by rw [← hx, ← hy]; simp at he; omega)
        clear hx hy
        go_wp2
        go_region
        go_wp2
        go_ret
        exact ⟨ret1 (by rw [HR.out, HZ.out]; rfl), HB.out.drew⟩
      · have he' : ((s[k].toNat : Int) != (t[k].toNat : Int)) = false := by simpa using he
        have HZ : Hid (lcp (s.data.toList.drop k) (t.data.toList.drop k) = 1 + lcp (s.data.toList.drop (k + 1)) (t.data.toList.drop (k + 1))) := lcp_same _ _ k (by rw [HSL.out]; exact hk1) (by rw [HTL.out]; exact hk2) (by rw [← hx, ← hy]; simp at he'; omega)
        clear hx hy
        go_wp2
        go_region
        go_wp2
        go_roundw
        case rel => exact ⟨k + 1, by omega, by go_num, by unfold Hid; rw [HR.out, HZ.out]; omega, HB.out.drew⟩
        case measure => simp [intOf]; omega
    · have HZ : Hid (lcp (s.data.toList.drop k) (t.data.toList.drop k) = 0) := lcp_end _ _ k (by rw [HSL.out, HTL.out]; have := HN.out; omega)
      have hkn : k = n := by omega
      go_wp2
      go_ret
      exact ⟨ret1 (by rw [HR.out, HZ.out, hkn]; rfl), HB.out⟩
end Go.Proofs.Ytleojljcidocjaa
