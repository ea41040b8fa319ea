/- The contract of the document's own Between. -/
import Derived.Test.YtleojljcidocjaaRBehind
namespace Go.Proofs.Ytleojljcidocjaa
open Go.RowKit

theorem between_at {a b : List UInt8} {d n m : Nat} (ha : a.length = n) (hb : b.length = m) (h : lcp a b = d) :
    between a b = if d = n ∨ d = m then a else if (a.getD d 0).toNat + 1 < (b.getD d 0).toNat then raise a d else a := by
  unfold between
  rw [h, ha, hb]

set_option maxRecDepth 100000 in
set_option maxHeartbeats 2000000 in
theorem rbetween_any (s t : ByteArray) (w : World) (hs : s.size ≤ 140737488351232) (_ht : t.size ≤ 140737488351232) :
    Calls Try.prog 19 #[.string s, .string t] w fun e w' => e = .returned (.string (strOf (between s.data.toList t.data.toList))) ∧ Below w.heap.size w w' := by
  have HSL : Hid (s.data.toList.length = s.size) := by unfold Hid; rw [Array.length_toList]; rfl
  have HTL : Hid (t.data.toList.length = t.size) := by unfold Hid; rw [Array.length_toList]; rfl
  go_enter Try.func19, Try.ntmps19
  go_wp2
  go_loopw [5] (fun i wr => ∃ k : Nat, k ≤ s.size ∧ k ≤ t.size ∧ i = .int .i64 k ∧ Hid (lcp s.data.toList t.data.toList = k + lcp (s.data.toList.drop k) (t.data.toList.drop k)) ∧ Hid (Below w.heap.size w wr)) (fun i _ => s.size - (intOf i).toNat)
  case atStart => exact ⟨0, Nat.zero_le _, Nat.zero_le _, rfl, by simp [Hid], Below.refl _ _⟩
  case round =>
    obtain ⟨k, hk1, hk2, rfl, HR, HB⟩ := hrel
    by_cases h1 : k < s.size
    · have h1' : decide ((k : Int) < s.size) = true := by simpa using h1
      by_cases h2 : k < t.size
      · have h2' : decide ((k : Int) < t.size) = true := by simpa using h2
        have hx := at_list s k h1
        have hy := at_list t k h2
        by_cases he : ((s[k].toNat : Int) == (t[k].toNat : Int)) = true
        · have HZ : Hid (lcp (s.data.toList.drop k) (t.data.toList.drop k) = 1 + lcp (s.data.toList.drop (k + 1)) (t.data.toList.drop (k + 1))) := lcp_same _ _ k (by rw [HSL.out]; exact h1) (by rw [HTL.out]; exact h2) (by rw [← hx, ← hy]; simp at he; omega)
          clear hx hy
          go_wp2
          go_region
          go_wp2
          go_roundw
          case rel => exact ⟨k + 1, by omega, by omega, by go_num, by unfold Hid; rw [HR.out, HZ.out]; omega, HB.out.drew⟩
          case measure => simp [intOf]; omega
        · have he' : ((s[k].toNat : Int) == (t[k].toNat : Int)) = false := by simpa using he
          have HZ : Hid (lcp (s.data.toList.drop k) (t.data.toList.drop k) = 0) := lcp_other _ _ k (by rw [HSL.out]; exact h1) (by rw [HTL.out]; exact h2) (by rw [← hx, ← hy]; simp at he'; omega)
          have HD := between_at HSL.out HTL.out (show lcp s.data.toList t.data.toList = k by rw [HR.out, HZ.out]; rfl)
          rw [if_neg (by omega)] at HD
          have g1 : ((k : Int) == (s.size : Int)) = false := by simp; omega
          have g2 : ((k : Int) == (t.size : Int)) = false := by simp; omega
          have hw : ∀ c : Nat, c < 300 → wrap64 (c : Int) = (c : Int) := by
            intro c hc
            unfold wrap64
            omega
          have hc1 := UInt8.toNat_lt s[k]
          have hc2 := UInt8.toNat_lt t[k]
          have hw1 := hw s[k].toNat (by omega)
          have hw2 := hw t[k].toNat (by omega)
          have hw3 : wrap64 ((s[k].toNat : Int) + 1) = (s[k].toNat : Int) + 1 := hw (s[k].toNat + 1) (by omega)
          clear hw HZ
          by_cases h3 : (s[k].toNat : Int) + 1 < (t[k].toNat : Int)
          · rw [if_pos (by rw [← hx, ← hy]; omega)] at HD
            have HF : Hid (between s.data.toList t.data.toList = raise s.data.toList k) := HD
            have h3' : decide ((s[k].toNat : Int) + 1 < (t[k].toNat : Int)) = true := by simpa using h3
            have h4' : decide ((s[k].toNat : Int) < 255) = true := by simp; omega
            have hyy : IntKind.u8.wrap ((s[k].toNat : Int) + 1) = ((s.data.toList.getD k 0 + 1).toNat : Int) := by
              rw [hx]
              simp [IntKind.wrap, IntKind.bits, IntKind.signed]
            have hcv := conv_of (BsAt.one (w := wr) (e := 5) hyy).drew.drew.drew
            have HJ : Hid (s.extract 0 k ++ strOf [s.data.toList.getD k 0 + 1] = strOf (raise s.data.toList k)) := raise_join s k h1
            have g3 := ext_size s k h1
            have g4 : (strOf [s.data.toList.getD k 0 + 1]).size = 1 := rfl
            have hadd : ∀ W : World, (Op.stringOp .add (s.extract 0 k) (strOf [s.data.toList.getD k 0 + 1])).run Try.prog W = .ok (.string (s.extract 0 k ++ strOf [s.data.toList.getD k 0 + 1])) W := fun W => run_string_add_sum W _ _ (by rw [g3, g4]; omega)
            generalize strOf [s.data.toList.getD k 0 + 1] = T at hcv HJ hadd
            generalize hS : s.extract 0 k = S at HJ hadd
            have hle : k ≤ s.size := by omega
            clear hx hy g3 g4 hyy HD
            go_wp2
            go_region
            go_wp2
            go_region
            go_wp2
            go_region_law (fail)
            all_goals
              go_wp2
              go_ret
              rw [HF.out, ← HJ.out]
              exact ⟨ret1 rfl, ((HB.out.alloc HB.out.size _).drew.drew).drew⟩
          · rw [if_neg (by rw [← hx, ← hy]; omega)] at HD
            have HF : Hid (between s.data.toList t.data.toList = s.data.toList) := HD
            have h3' : decide ((s[k].toNat : Int) + 1 < (t[k].toNat : Int)) = false := by simpa using h3
            clear hx hy HD
            by_cases h4 : (s[k].toNat : Int) < 255
            · have h4' : decide ((s[k].toNat : Int) < 255) = true := by simp; omega
              go_wp2
              go_region
              go_wp2
              go_region
              go_wp2
              go_ret
              rw [HF.out, strOf_self]
              exact ⟨ret1 rfl, HB.out.drew.drew⟩
            · have h4' : decide ((s[k].toNat : Int) < 255) = false := by simp; omega
              go_wp2
              go_region
              go_wp2
              go_region
              go_wp2
              go_ret
              rw [HF.out, strOf_self]
              exact ⟨ret1 rfl, HB.out.drew.drew⟩
      · have HZ : Hid (lcp (s.data.toList.drop k) (t.data.toList.drop k) = 0) := lcp_end _ _ k (by rw [HSL.out, HTL.out]; omega)
        have HD := between_at HSL.out HTL.out (show lcp s.data.toList t.data.toList = k by rw [HR.out, HZ.out]; rfl)
        rw [if_pos (by omega)] at HD
        have HF : Hid (between s.data.toList t.data.toList = s.data.toList) := HD
        have h2' : decide ((k : Int) < t.size) = false := by simpa using h2
        have g1 : ((k : Int) == (s.size : Int)) = false := by simp; omega
        have g2 : ((k : Int) == (t.size : Int)) = true := by simp; omega
        clear HD
        go_wp2
        go_region
        go_wp2
        go_ret
        rw [HF.out, strOf_self]
        exact ⟨ret1 rfl, HB.out.drew⟩
    · have HZ : Hid (lcp (s.data.toList.drop k) (t.data.toList.drop k) = 0) := lcp_end _ _ k (by rw [HSL.out, HTL.out]; omega)
      have HD := between_at HSL.out HTL.out (show lcp s.data.toList t.data.toList = k by rw [HR.out, HZ.out]; rfl)
      rw [if_pos (by omega)] at HD
      have HF : Hid (between s.data.toList t.data.toList = s.data.toList) := HD
      have h1' : decide ((k : Int) < s.size) = false := by simpa using h1
      have g1 : ((k : Int) == (s.size : Int)) = true := by simp; omega
      clear HD
      go_wp2
      go_region
      go_wp2
      go_ret
      rw [HF.out, strOf_self]
      exact ⟨ret1 rfl, HB.out.drew⟩
end Go.Proofs.Ytleojljcidocjaa
