/- The contract of the document's own Behind. -/
import Derived.Test.YtleojljcidocjaaBehind
namespace Go.Proofs.Ytleojljcidocjaa
open Go.RowKit

/-- A text up to a byte, and one byte more, joined. -/
theorem raise_join (s : ByteArray) (k : Nat) (h : k < s.size) : s.extract 0 k ++ strOf [s.data.toList.getD k 0 + 1] = strOf (raise s.data.toList k) := by
  have e := ext_list s k h
  have : (s.extract 0 k ++ strOf [s.data.toList.getD k 0 + 1]).data.toList = (strOf (raise s.data.toList k)).data.toList := by
    rw [ByteArray.data_append, Array.toList_append, e]
    rfl
  have h2 := congrArg strOf this
  rwa [strOf_self, strOf_self] at h2

set_option maxRecDepth 100000 in
set_option maxHeartbeats 1000000 in
theorem rbehind_any (s : ByteArray) (w : World) (hs : s.size ≤ 140737488351232) :
    Calls Try.prog 21 #[.string s] w fun e w' => e = .returned (.string (strOf (behind s.data.toList))) ∧ Below w.heap.size w w' := by
  have HSL : Hid (s.data.toList.length = s.size) := by unfold Hid; rw [Array.length_toList]; rfl
  go_enter Try.func21, Try.ntmps21
  go_wp2
  go_loop [3] (fun i => ∃ k : Nat, k ≤ s.size ∧ i = .int .i64 k ∧ Hid (low s.data.toList = k + low (s.data.toList.drop k))) (fun i => s.size - (intOf i).toNat)
  case atStart => exact ⟨0, Nat.zero_le _, rfl, by simp [Hid]⟩
  case round =>
    obtain ⟨k, hk, rfl, HR⟩ := hrel
    by_cases hlt : k < s.size
    · have hx := at_list s k hlt
      have hc := UInt8.toNat_lt s[k]
      by_cases he : (s[k].toNat : Int) < 255
      · have HZ : Hid (low (s.data.toList.drop k) = 0) := low_here _ k (by rw [HSL.out]; exact hlt) (by rw [← hx]; omega)
        have hle : k ≤ s.size := by omega
        have hy : IntKind.u8.wrap ((s[k].toNat : Int) + 1) = ((s.data.toList.getD k 0 + 1).toNat : Int) := by
          rw [hx]
          simp [IntKind.wrap, IntKind.bits, IntKind.signed]
        have hcv := conv_of (BsAt.one (w := w) (e := 5) hy).drew
        have HJ : Hid (s.extract 0 k ++ strOf [s.data.toList.getD k 0 + 1] = strOf (raise s.data.toList k)) := raise_join s k hlt
        have h1 := ext_size s k hlt
        have h2 : (strOf [s.data.toList.getD k 0 + 1]).size = 1 := rfl
        have hadd : ∀ W : World, (Op.stringOp .add (s.extract 0 k) (strOf [s.data.toList.getD k 0 + 1])).run Try.prog W = .ok (.string (s.extract 0 k ++ strOf [s.data.toList.getD k 0 + 1])) W := fun W => run_string_add_sum W _ _ (by rw [h1, h2]; omega)
        generalize strOf [s.data.toList.getD k 0 + 1] = T at hcv HJ hadd
        generalize hS : s.extract 0 k = S at HJ hadd
        clear hx hy h1 h2
        go_wp2
        go_region_law (fail)
        all_goals
          go_wp2
          go_ret
          exact ⟨ret1 (by rw [behind_yes HSL.out (by rw [HR.out, HZ.out]; rfl) hlt, ← HJ.out]; rfl), ((Below.refl _ w).alloc (Nat.le_refl _) _).drew⟩
      · have HZ : Hid (low (s.data.toList.drop k) = 1 + low (s.data.toList.drop (k + 1))) := low_full _ k (by rw [HSL.out]; exact hlt) (by rw [← hx]; omega)
        clear hx
        go_wp2
        go_round
        case rel => exact ⟨k + 1, by omega, by go_num, by unfold Hid; rw [HR.out, HZ.out]; omega⟩
        case measure => simp [intOf]; omega
    · have HZ : Hid (low (s.data.toList.drop k) = 0) := low_end _ k (by rw [HSL.out]; omega)
      have hkn : k = s.size := by omega
      have HF : Hid (behind s.data.toList = s.data.toList) := behind_no HSL.out (by rw [HR.out, HZ.out, hkn]; rfl)
      clear hkn
      go_wp2
      go_ret
      rw [HF.out, strOf_self]
      exact ⟨ret1 rfl, Below.refl _ _⟩
end Go.Proofs.Ytleojljcidocjaa
