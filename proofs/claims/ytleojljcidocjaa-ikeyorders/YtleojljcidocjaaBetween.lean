/- The contract of ikey.Between. -/
import Derived.Test.YtleojljcidocjaaAlike
namespace Go.Proofs.Ytleojljcidocjaa
open Go.RowKit

theorem strOf_self (s : ByteArray) : strOf s.data.toList = s := by cases s; rfl

set_option maxRecDepth 100000 in
set_option maxHeartbeats 1000000 in
theorem between_any (s t : ByteArray) (w : World) (hs : s.size ≤ 140737488351232) (ht : t.size ≤ 140737488351232) :
    Calls Try.prog 18 #[.string s, .string t] w fun e w' => e = .returned (.string (strOf (between s.data.toList t.data.toList))) ∧ Below w.heap.size w w' := by
  have HSL : Hid (s.data.toList.length = s.size) := by unfold Hid; rw [Array.length_toList]; rfl
  have HTL : Hid (t.data.toList.length = t.size) := by unfold Hid; rw [Array.length_toList]; rfl
  have hal := fun W => alike_any s t W hs ht
  have HE : Hid (between s.data.toList t.data.toList = if lcp s.data.toList t.data.toList = s.size ∨ lcp s.data.toList t.data.toList = t.size then s.data.toList
      else if (s.data.toList.getD (lcp s.data.toList t.data.toList) 0).toNat + 1 < (t.data.toList.getD (lcp s.data.toList t.data.toList) 0).toNat then raise s.data.toList (lcp s.data.toList t.data.toList) else s.data.toList) := by
    unfold between Hid
    rw [HSL.out, HTL.out]
  have hle := lcp_le s.data.toList t.data.toList
  rw [HSL.out, HTL.out] at hle
  obtain ⟨hl1, hl2⟩ := hle
  generalize lcp s.data.toList t.data.toList = d at hal HE hl1 hl2
  by_cases h1 : d = s.size
  · have HF : Hid (between s.data.toList t.data.toList = s.data.toList) := by unfold Hid; rw [HE.out, if_pos (.inl h1)]
    have h1' : ((d : Int) == (s.size : Int)) = true := by simp [h1]
    clear h1
    go_enter Try.func18, Try.ntmps18
    go_wp2_with (go_at_call 29; refine (hal _).mono ?_; rintro e w1 ⟨rfl, hb1⟩)
    go_ret
    rw [HF.out, strOf_self]
    exact ⟨ret1 rfl, hb1⟩
  · have h1' : ((d : Int) == (s.size : Int)) = false := by simp; omega
    by_cases h2 : d = t.size
    · have HF : Hid (between s.data.toList t.data.toList = s.data.toList) := by unfold Hid; rw [HE.out, if_pos (.inr h2)]
      have h2' : ((d : Int) == (t.size : Int)) = true := by simp [h2]
      clear h2
      go_enter Try.func18, Try.ntmps18
      go_wp2_with (go_at_call 29; refine (hal _).mono ?_; rintro e w1 ⟨rfl, hb1⟩)
      go_ret
      rw [HF.out, strOf_self]
      exact ⟨ret1 rfl, hb1⟩
    · have h2' : ((d : Int) == (t.size : Int)) = false := by simp; omega
      have hd1 : d < s.size := by omega
      have hd2 : d < t.size := by omega
      have hx := at_list s d hd1
      have hy := at_list t d hd2
      have hw : ∀ c : Nat, c < 300 → wrap64 (c : Int) = (c : Int) := by
        intro c hc
        unfold wrap64
        omega
      have hc1 := UInt8.toNat_lt s[d]
      have hc2 := UInt8.toNat_lt t[d]
      have hw1 := hw s[d].toNat (by omega)
      have hw2 := hw t[d].toNat (by omega)
      have hw3 : wrap64 ((s[d].toNat : Int) + 1) = (s[d].toNat : Int) + 1 := hw (s[d].toNat + 1) (by omega)
      clear hw hc1 hc2
      by_cases h3 : (s[d].toNat : Int) + 1 < (t[d].toNat : Int)
      · have HF : Hid (between s.data.toList t.data.toList = raise s.data.toList d) := by unfold Hid; rw [HE.out, if_neg (by omega), if_pos (by rw [← hx, ← hy]; omega)]
        clear hx hy h1 h2
        have h3' : decide ((s[d].toNat : Int) + 1 < (t[d].toNat : Int)) = true := by simpa using h3
        go_enter Try.func18, Try.ntmps18
        go_wp2_with (go_at_call 29; refine (hal _).mono ?_; rintro e w1 ⟨rfl, hb1⟩)
        go_region
        go_wp2_with (go_at_call 30; refine (raised_any s d _ hd1 hs).mono ?_; rintro e w2 ⟨rfl, hb2⟩)
        go_ret
        rw [HF.out]
        exact ⟨ret1 rfl, hb1.drew.trans (hb2.mono hb1.size)⟩
      · have HF : Hid (between s.data.toList t.data.toList = s.data.toList) := by unfold Hid; rw [HE.out, if_neg (by omega), if_neg (by rw [← hx, ← hy]; omega)]
        clear hx hy h1 h2
        have h3' : decide ((s[d].toNat : Int) + 1 < (t[d].toNat : Int)) = false := by simpa using h3
        go_enter Try.func18, Try.ntmps18
        go_wp2_with (go_at_call 29; refine (hal _).mono ?_; rintro e w1 ⟨rfl, hb1⟩)
        go_region
        go_wp2
        go_ret
        rw [HF.out, strOf_self]
        exact ⟨ret1 rfl, hb1.drew⟩
end Go.Proofs.Ytleojljcidocjaa
