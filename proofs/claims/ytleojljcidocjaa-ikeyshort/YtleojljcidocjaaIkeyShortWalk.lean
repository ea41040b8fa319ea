/- staddlelaw02.IkeyShort returns true, for every argument, and leaves memory as it was. -/
import Derived.Test.YtleojljcidocjaaAwake2
import Derived.Test.YtleojljcidocjaaShortFacts
namespace Go.Proofs.Ytleojljcidocjaa
open Go.RowKit
theorem strOf_toList (l : List UInt8) : (strOf l).toList = l := by rw [ByteArray.toList_eq]; simp [strOf]
theorem strOf_size (l : List UInt8) : (strOf l).size = l.length := by show l.toArray.size = _; simp
set_option maxRecDepth 100000 in
set_option maxHeartbeats 1000000 in
theorem ikeyShort_walk (s0 s1 : ByteArray) (w : World) (e0 : s0.size ≤ 140737488351232) (e1 : s1.size ≤ 140737488351232) :
    Calls Try.prog 8 #[.string s0, .string s1] w fun e w' => e = .returned (.bool true) ∧ Below w.heap.size w w' := by
  have hbt := fun W => between_any s0 s1 W e0 e1
  have hbh := fun W => behind_any s0 W e0
  have hl : s0.data.toList.length = s0.size := by rw [Array.length_toList]; rfl
  obtain ⟨m1, m2, m3, m4⟩ := between_facts s0.data.toList s1.data.toList
  obtain ⟨n1, n2⟩ := behind_facts s0.data.toList
  have M1 : (strOf (between s0.data.toList s1.data.toList)).size ≤ s0.size := by rw [strOf_size]; omega
  have N1 : (strOf (behind s0.data.toList)).size ≤ s0.size := by rw [strOf_size]; omega
  have M2 : Op.bytesLess (strOf (between s0.data.toList s1.data.toList)).toList s0.toList = false := by rw [strOf_toList, ByteArray.toList_eq]; exact m2
  have N2 : Op.bytesLess (strOf (behind s0.data.toList)).toList s0.toList = false := by rw [strOf_toList, ByteArray.toList_eq]; exact n2
  have M3 : Op.bytesLess s0.toList s1.toList = true → Op.bytesLess (strOf (between s0.data.toList s1.data.toList)).toList s1.toList = true := by rw [strOf_toList, ByteArray.toList_eq, ByteArray.toList_eq]; exact m3
  have M4 : Op.bytesLess s0.toList s1.toList = false → ((strOf (between s0.data.toList s1.data.toList)).toList == s0.toList) = true := by rw [strOf_toList, ByteArray.toList_eq, ByteArray.toList_eq]; intro h; rw [m4 h]; simp
  clear m1 m2 m3 m4 n1 n2 hl
  generalize strOf (between s0.data.toList s1.data.toList) = M at hbt M1 M2 M3 M4
  generalize strOf (behind s0.data.toList) = N at hbh N1 N2
  by_cases h : Op.bytesLess s0.toList s1.toList = true
  · have M5 := M3 h
    clear M3 M4
    go_enter Try.func8, Try.ntmps8
    go_wp2_with (first
      | (go_at_call 9; refine (awake_any _).mono ?_; rintro e v1 ⟨rfl, hb1⟩)
      | (go_at_call 18; refine (hbt _).mono ?_; rintro e v2 ⟨rfl, hb2⟩)
      | (go_at_call 20; refine (hbh _).mono ?_; rintro e v3 ⟨rfl, hb3⟩))
    go_ret
    exact ⟨ret1 rfl, (hb1.trans (hb2.mono hb1.size)).trans (hb3.mono (Nat.le_trans hb1.size hb2.size))⟩
  · have h' : Op.bytesLess s0.toList s1.toList = false := by simpa using h
    have M5 := M4 h'
    clear M3 M4
    go_enter Try.func8, Try.ntmps8
    go_wp2_with (first
      | (go_at_call 9; refine (awake_any _).mono ?_; rintro e v1 ⟨rfl, hb1⟩)
      | (go_at_call 18; refine (hbt _).mono ?_; rintro e v2 ⟨rfl, hb2⟩)
      | (go_at_call 20; refine (hbh _).mono ?_; rintro e v3 ⟨rfl, hb3⟩))
    go_ret
    exact ⟨ret1 rfl, (hb1.trans (hb2.mono hb1.size)).trans (hb3.mono (Nat.le_trans hb1.size hb2.size))⟩
end Go.Proofs.Ytleojljcidocjaa
