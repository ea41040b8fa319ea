/- The contracts of the library's sort by insertion, and of reversing, at rows of uint64. -/
import Derived.Test.YtcdfgcjecmpjhaaU14Row
namespace Go.Proofs.Ytcdfgcjecmpjhaa
open Go.RowKit
set_option linter.unusedVariables false
set_option linter.unusedSimpArgs false
theorem ins_go {a j : Nat} {d : Array Nat} (h : a < j) (hl : lN d[j]! d[j - 1]! = true) : Sort.insInner lN a j d = Sort.insInner lN a (j - 1) (Sort.swp d j (j - 1)) := by
  cases j with
  | zero => omega
  | succ k =>
    rw [Nat.add_sub_cancel] at hl ⊢
    rw [Sort.insInner, if_pos (by rw [hl]; simpa using h)]
theorem ins_no {a j : Nat} {d : Array Nat} (h : j ≤ a ∨ lN d[j]! d[j - 1]! = false) : Sort.insInner lN a j d = d := by
  cases j with
  | zero => rw [Sort.insInner]
  | succ k =>
    rw [Nat.add_sub_cancel] at h
    rw [Sort.insInner, if_neg]
    rw [Bool.and_eq_true, decide_eq_true_eq]
    rintro ⟨h1, h2⟩
    rcases h with h | h
    · omega
    · rw [h] at h2
      cases h2
set_option maxRecDepth 100000 in
set_option maxHeartbeats 8000000 in
theorem ins_at (g o c a b n : Nat) (d : Array Nat) (w : World) (hR : Rw w w g o d) (hn : d.size = n) (hab : a ≤ b) (hb : b ≤ n) (hm : n < 4611686018427387904) :
    Calls Try.prog 58 #[.slice (some ⟨g, o, none⟩) n c, .int .i64 (a : Int), .int .i64 (b : Int)] w fun e w' => e = .returned (.tuple #[]) ∧ Rw w w' g o (Sort.insertionSort lN d a b) := by
  have HR : Hid (Rw w w g o d ∧ d.size = n) := ⟨hR, hn⟩
  clear hR hn
  go_enter Try.func58, Try.ntmps58
  go_wp2
  go_loopg [6] (b - a) (fun kx s6 wr => ∃ (i : Nat) (di : Array Nat), s6 = .int .i64 (i : Int) ∧ a < i ∧ i ≤ b + 1 ∧ kx = b + 1 - i ∧ Hid (Rw w wr g o di ∧ di.size = n ∧ Sort.insOuter lN a b i di = Sort.insOuter lN a b (a + 1) d))
  case atStart => exact ⟨a + 1, d, by go_num, by omega, by omega, by omega, HR.out.1, HR.out.2, rfl⟩
  case round =>
    obtain ⟨i, di, rfl, hai, hib, rfl, HI⟩ := hrel
    by_cases hlt : i < b
    · go_wp2
      go_loopg [7] (i + 1) (fun kx s7 wq => ∃ (j : Nat) (dj : Array Nat), s7 = .int .i64 (j : Int) ∧ a ≤ j ∧ j ≤ i ∧ kx = j + 1 ∧ Hid (Rw w wq g o dj ∧ dj.size = n ∧ Sort.insInner lN a j dj = Sort.insInner lN a i di))
      case atStart => exact ⟨i, di, rfl, by omega, Nat.le_refl _, rfl, HI.out.1, HI.out.2.1, rfl⟩
      case round =>
        obtain ⟨j, dj, rfl, haj, hji, rfl, HJ⟩ := hrel
        obtain ⟨G, HG, hcw, hfw⟩ := HJ.out.1.fam HJ.out.2.1
        have OUT : Hid (Sort.insInner lN a j dj = dj → ∀ W, Rw w W g o dj → Rw w W g o dj ∧ dj.size = n ∧ Sort.insOuter lN a b (i + 1) dj = Sort.insOuter lN a b (a + 1) d) := fun he W hW => by
          refine ⟨hW, HJ.out.2.1, ?_⟩
          rw [← HI.out.2.2]
          conv => rhs; rw [Sort.insOuter, if_pos hlt, ← HJ.out.2.2, he]
        by_cases hja : a < j
        · cases hl : lN (G j) (G (j - 1))
          all_goals have HL : Hid (lN (G j) (G (j - 1)) = _) := hl
          all_goals clear hl
          all_goals go_wp2_with fail
          all_goals go_quiet (first | (go_at_call 64; refine Calls.quiet_of_same (less_any _ _ _)))
          all_goals simp only [HL.out]
          · go_wp2
            go_roundg (b - i)
            case measure => omega
            case rel => exact ⟨i + 1, dj, by go_num, by omega, by omega, by omega, OUT.out (ins_no (.inr (by rw [← HG.out, ← HG.out]; exact HL.out))) _ (HJ.out.1.drewN nq)⟩
          · go_wp2
            go_region
            all_goals go_wp2
            go_roundg j
            case measure => omega
            case rel =>
              refine ⟨j - 1, Sort.swp dj j (j - 1), by congr 1; omega, by omega, by omega, by omega, ?_, by rw [Sort.size_swp]; exact HJ.out.2.1, ?_⟩
              · rw [HG.out, HG.out]
                exact HJ.out.1.swap (by rw [HJ.out.2.1]; omega) (by rw [HJ.out.2.1]; omega) _
              · rw [← HJ.out.2.2, ins_go hja (by rw [← HG.out, ← HG.out]; exact HL.out)]
        · go_wp2_with fail
          go_quiet (first | (go_at_call 64; refine Calls.quiet_of_same (less_any _ _ _)))
          go_wp2
          go_roundg (b - i)
          case measure => omega
          case rel => exact ⟨i + 1, dj, by go_num, by omega, by omega, by omega, OUT.out (ins_no (.inl (by omega))) _ (HJ.out.1.drewN nq)⟩
    · go_wp2
      go_end0
      refine ⟨rfl, ?_⟩
      have h3 := HI.out.2.2
      rw [Sort.insOuter, if_neg hlt] at h3
      unfold Sort.insertionSort
      rw [← h3]
      exact HI.out.1
theorem rev_go {i j : Nat} {d : Array Nat} (h : i < j) : Sort.reverseLoop i j d = Sort.reverseLoop (i + 1) (j - 1) (Sort.swp d i j) := by
  rw [Sort.reverseLoop, if_pos h]
theorem rev_no {i j : Nat} {d : Array Nat} (h : ¬ i < j) : Sort.reverseLoop i j d = d := by
  rw [Sort.reverseLoop, if_neg h]
set_option maxRecDepth 100000 in
set_option maxHeartbeats 8000000 in
theorem rev_at (g o c a b n : Nat) (d : Array Nat) (w : World) (hR : Rw w w g o d) (hn : d.size = n) (hab : a < b) (hb : b ≤ n) (hm : n < 4611686018427387904) :
    Calls Try.prog 62 #[.slice (some ⟨g, o, none⟩) n c, .int .i64 (a : Int), .int .i64 (b : Int)] w fun e w' => e = .returned (.tuple #[]) ∧ Rw w w' g o (Sort.reverseRange d a b) := by
  have HR : Hid (Rw w w g o d ∧ d.size = n) := ⟨hR, hn⟩
  clear hR hn
  go_enter Try.func62, Try.ntmps62
  go_wp2
  go_loopg [6, 7] (b - a) (fun kx s6 s7 wr => ∃ (i j : Nat) (di : Array Nat), s6 = .int .i64 (i : Int) ∧ s7 = .int .i64 (j : Int) ∧ a ≤ i ∧ j < b ∧ i ≤ j + 1 ∧ kx = j + 1 - i ∧ Hid (Rw w wr g o di ∧ di.size = n ∧ Sort.reverseLoop i j di = Sort.reverseLoop a (b - 1) d))
  case atStart => exact ⟨a, b - 1, d, rfl, by congr 1; omega, by omega, by omega, by omega, by omega, HR.out.1, HR.out.2, rfl⟩
  case round =>
    obtain ⟨i, j, di, rfl, rfl, hai, hjb, hij, rfl, HI⟩ := hrel
    obtain ⟨G, HG, hcw, hfw⟩ := HI.out.1.fam HI.out.2.1
    by_cases hlt : i < j
    · go_wp2
      go_region
      all_goals go_wp2
      go_roundg (j - 1 + 1 - (i + 1))
      case measure => omega
      case rel =>
        refine ⟨i + 1, j - 1, Sort.swp di i j, by go_num, by congr 1; omega, by omega, by omega, by omega, rfl, ?_, by rw [Sort.size_swp]; exact HI.out.2.1, ?_⟩
        · rw [HG.out, HG.out]
          exact HI.out.1.swap (by rw [HI.out.2.1]; omega) (by rw [HI.out.2.1]; omega) _
        · rw [← HI.out.2.2]
          exact (rev_go hlt).symm
    · go_wp2
      go_end0
      refine ⟨rfl, ?_⟩
      have h3 := HI.out.2.2
      rw [rev_no hlt] at h3
      unfold Sort.reverseRange
      rw [← h3]
      exact HI.out.1
end Go.Proofs.Ytcdfgcjecmpjhaa
