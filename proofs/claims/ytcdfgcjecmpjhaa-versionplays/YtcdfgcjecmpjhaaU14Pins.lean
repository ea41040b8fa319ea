/- The contract of the library's partial sort by insertion at rows of uint64. -/
import Derived.Test.YtcdfgcjecmpjhaaU14Row
import Derived.Deep.DeepCutAuto
import Derived.Deep.CutBlock
namespace Go.Proofs.Ytcdfgcjecmpjhaa
open Go.RowKit
set_option linter.unusedVariables false
set_option linter.unusedSimpArgs false
theorem srt_go {d : Array Nat} {b i : Nat} (h : i < b) (hl : lN d[i]! d[i - 1]! = false) : Sort.scanSorted lN d b i = Sort.scanSorted lN d b (i + 1) := by
  rw [Sort.scanSorted, if_pos (by rw [hl]; simpa using h)]
theorem srt_no {d : Array Nat} {b i : Nat} (h : ¬ i < b ∨ lN d[i]! d[i - 1]! = true) : Sort.scanSorted lN d b i = i := by
  rw [Sort.scanSorted, if_neg]
  rw [Bool.and_eq_true, decide_eq_true_eq]
  rintro ⟨h1, h2⟩
  rcases h with h | h
  · exact h h1
  · rw [h] at h2
    cases h2
theorem shd_go {d : Array Nat} {j : Nat} (h : 1 ≤ j) (hl : lN d[j]! d[j - 1]! = true) : Sort.shiftDown lN j d = Sort.shiftDown lN (j - 1) (Sort.swp d j (j - 1)) := by
  cases j with
  | zero => omega
  | succ k =>
    rw [Nat.add_sub_cancel] at hl ⊢
    rw [Sort.shiftDown, if_neg (by rw [hl]; decide)]
theorem shd_no {d : Array Nat} {j : Nat} (h : ¬ 1 ≤ j ∨ lN d[j]! d[j - 1]! = false) : Sort.shiftDown lN j d = d := by
  cases j with
  | zero => rw [Sort.shiftDown]
  | succ k =>
    rcases h with h | h
    · omega
    · rw [Nat.add_sub_cancel] at h
      rw [Sort.shiftDown, if_pos (by rw [h]; rfl)]
theorem shu_go {d : Array Nat} {b j : Nat} (h : j < b) (hl : lN d[j]! d[j - 1]! = true) : Sort.shiftUp lN b j d = Sort.shiftUp lN b (j + 1) (Sort.swp d j (j - 1)) := by
  rw [Sort.shiftUp, if_pos h, if_neg (by rw [hl]; decide)]
theorem shu_no {d : Array Nat} {b j : Nat} (h : ¬ j < b ∨ lN d[j]! d[j - 1]! = false) : Sort.shiftUp lN b j d = d := by
  rw [Sort.shiftUp]
  by_cases hj : j < b
  · rw [if_pos hj, if_pos]
    rcases h with h | h
    · exact absurd hj h
    · rw [h]; rfl
  · rw [if_neg hj]
def fixDn (a i : Nat) (d : Array Nat) : Array Nat := if 2 ≤ i - a then Sort.shiftDown lN (i - 1) d else d
def fixU (b i : Nat) (d : Array Nat) : Array Nat := if 2 ≤ b - i then Sort.shiftUp lN b (i + 1) d else d
theorem pins_step {a b s i i2 : Nat} {d : Array Nat} (h : Sort.scanSorted lN d b i = i2) : Sort.partialIns lN a b (s + 1) i d = if i2 = b then (d, true) else if b - a < 50 then (d, false) else Sort.partialIns lN a b s i2 (fixU b i2 (fixDn a i2 (Sort.swp d i2 (i2 - 1)))) := by
  rw [Sort.partialIns]
  simp only [h]
  rfl
set_option maxRecDepth 100000 in
set_option maxHeartbeats 32000000 in
theorem pins_at (g o c a b n : Nat) (d : Array Nat) (w : World) (hR : Rw w w g o d) (hn : d.size = n) (hab : a < b) (hb : b ≤ n) (hm : n < 2305843009213693952) :
    Calls Try.prog 63 #[.slice (some ⟨g, o, none⟩) n c, .int .i64 (a : Int), .int .i64 (b : Int)] w fun e w' => e = .returned (.bool (Sort.partialInsertionSort lN d a b).2) ∧ Rw w w' g o (Sort.partialInsertionSort lN d a b).1 := by
  have HR : Hid (Rw w w g o d ∧ d.size = n) := ⟨hR, hn⟩
  obtain ⟨res, hres, HE⟩ : ∃ res, res = Sort.partialInsertionSort lN d a b ∧ Hid (res = Sort.partialIns lN a b 5 (a + 1) d) := ⟨_, rfl, rfl⟩
  rw [← hres]
  clear hR hn hres
  go_enter Try.func63, Try.ntmps63
  go_wp2_with fail
  go_loopg [7, 8] 5 (fun kx s7 s8 wr => ∃ (i k : Nat) (di : Array Nat), s7 = .int .i64 (i : Int) ∧ s8 = .int .i64 (k : Int) ∧ a < i ∧ i ≤ b ∧ k + kx = 5 ∧ Hid (Rw w wr g o di ∧ di.size = n ∧ res = Sort.partialIns lN a b kx i di))
  case atStart => exact ⟨a + 1, 0, d, by go_num, rfl, by omega, by omega, by omega, HR.out.1, HR.out.2, HE.out⟩
  case round =>
    obtain ⟨i, k, di, rfl, rfl, hai, hib, hkx, HI⟩ := hrel
    cases gk with
    | zero =>
      obtain rfl : k = 5 := by omega
      go_wp2
      go_ret
      rw [HI.out.2.2]
      exact ⟨ret1 rfl, HI.out.1⟩
    | succ s =>
      have hk5 : k < 5 := by omega
      go_upto_block 2 with fail
      go_cut [7] (fun s wz => ∃ i2 : Nat, s = .int .i64 (i2 : Int) ∧ i ≤ i2 ∧ i2 ≤ b ∧ Hid (Rw w wz g o di ∧ Sort.scanSorted lN di b i = i2))
      case first =>
        go_wp2_with fail
        go_loopg [7] (b - i) (fun ky s wq => ∃ i1 : Nat, s = .int .i64 (i1 : Int) ∧ i ≤ i1 ∧ i1 ≤ b ∧ ky = b - i1 ∧ Hid (Rw w wq g o di ∧ Sort.scanSorted lN di b i1 = Sort.scanSorted lN di b i))
        case atStart => exact ⟨i, rfl, Nat.le_refl _, hib, rfl, HI.out.1, rfl⟩
        case round =>
          obtain ⟨i1, rfl, hii, hi1b, hky, HV⟩ := hrel
          obtain ⟨G, HG, hcw, hfw⟩ := HV.out.1.fam HI.out.2.1
          by_cases hle : i1 < b
          · cases hl : lN (G i1) (G (i1 - 1))
            all_goals have HL : Hid (lN (G i1) (G (i1 - 1)) = _) := hl
            all_goals clear hl
            all_goals go_wp2_with fail
            all_goals go_quiet (first | (go_at_call 64; refine Calls.quiet_of_same (less_any _ _ _)))
            all_goals simp only [HL.out]
            · go_wp2
              go_roundg (b - (i1 + 1))
              case measure => omega
              case rel => exact ⟨i1 + 1, by go_num, by omega, by omega, rfl, HV.out.1.drewN nq, by rw [← HV.out.2]; exact (srt_go hle (by rw [← HG.out, ← HG.out]; exact HL.out)).symm⟩
            · go_wp2_with fail
              go_meet
              exact ⟨i1, rfl, by omega, by omega, HV.out.1.drewN nq, by rw [← HV.out.2]; exact srt_no (.inr (by rw [← HG.out, ← HG.out]; exact HL.out))⟩
          · go_wp2_with fail
            go_quiet (first | (go_at_call 64; refine Calls.quiet_of_same (less_any _ _ _)))
            go_wp2_with fail
            go_meet
            exact ⟨i1, rfl, by omega, by omega, HV.out.1.drewN nq, by rw [← HV.out.2]; exact srt_no (.inl hle)⟩
      case rest =>
        obtain ⟨i2, rfl, hil, hi2b, HU⟩ := hcut
        have HQ : Hid (res = _) := HI.out.2.2.trans (pins_step HU.out.2)
        by_cases he : i2 = b
        · have HQ2 : Hid (res = (di, true)) := by have := HQ.out; rw [if_pos he] at this; exact this
          have heb : ((i2 : Int) == (b : Int)) = true := beq_iff_eq.2 (by omega)
          clear HQ
          go_wp2
          go_ret
          rw [HQ2.out]
          exact ⟨ret1 rfl, HU.out.1⟩
        · have heb : ((i2 : Int) == (b : Int)) = false := beq_eq_false_iff_ne.2 (by omega)
          by_cases h50 : b - a < 50
          · have HQ2 : Hid (res = (di, false)) := by have := HQ.out; rw [if_neg he, if_pos h50] at this; exact this
            have h50I : (b : Int) - (a : Int) < 50 := by omega
            clear HQ
            go_wp2
            go_ret
            rw [HQ2.out]
            exact ⟨ret1 rfl, HU.out.1⟩
          · have HQ2 : Hid (res = Sort.partialIns lN a b s i2 (fixU b i2 (fixDn a i2 (Sort.swp di i2 (i2 - 1))))) := by have := HQ.out; rw [if_neg he, if_neg h50] at this; exact this
            have h50I : ¬ (b : Int) - (a : Int) < 50 := by omega
            clear HQ
            obtain ⟨d1, HD1⟩ : ∃ d1, Hid (d1 = Sort.swp di i2 (i2 - 1) ∧ d1.size = n) := ⟨_, rfl, by rw [Sort.size_swp]; exact HI.out.2.1⟩
            obtain ⟨d2, HD2⟩ : ∃ d2, Hid (d2 = fixDn a i2 d1) := ⟨_, rfl⟩
            obtain ⟨d3, HD3⟩ : ∃ d3, Hid (d3 = fixU b i2 d2) := ⟨_, rfl⟩
            have HQ3 : Hid (res = Sort.partialIns lN a b s i2 d3) := by rw [HD3.out, HD2.out, HD1.out.1]; exact HQ2.out
            clear HQ2
            obtain ⟨G, HG, hcw, hfw⟩ := HU.out.1.fam HI.out.2.1
            have HSW : Hid (Rw w ((wc.setCell ⟨g, o + i2, none⟩ (.int .u64 (G (i2 - 1) : Int))).setCell ⟨g, o + (i2 - 1), none⟩ (.int .u64 (G i2 : Int))).drew g o d1) := by
              rw [HG.out, HG.out, HD1.out.1]
              exact HU.out.1.swap (by rw [HI.out.2.1]; omega) (by rw [HI.out.2.1]; omega) 1
            go_wp2_with fail
            go_region
            all_goals go_upto_if 61 with fail
            generalize ((wc.setCell ⟨g, o + i2, none⟩ (.int .u64 (G (i2 - 1) : Int))).setCell ⟨g, o + (i2 - 1), none⟩ (.int .u64 (G i2 : Int))).drew = W1 at HSW ⊢
            clear hcw hfw
            go_cut [7] (fun s wz => s = .int .i64 (i2 : Int) ∧ Hid (Rw w wz g o d2 ∧ d2.size = n))
            case first =>
              by_cases h2 : 2 ≤ i2 - a
              · have h2I : (2 : Int) ≤ (i2 : Int) - (a : Int) := by omega
                have HF : Hid (d2 = Sort.shiftDown lN (i2 - 1) d1) := by have := HD2.out; unfold fixDn at this; rw [if_pos h2] at this; exact this
                go_wp2_with fail
                go_loopg [9] (i2 - 1) (fun ky s wq => ∃ (j : Nat) (dj : Array Nat), s = .int .i64 (j : Int) ∧ j < b ∧ ky = j ∧ Hid (Rw w wq g o dj ∧ dj.size = n ∧ d2 = Sort.shiftDown lN j dj))
                case atStart => exact ⟨i2 - 1, d1, by congr 1; omega, by omega, rfl, HSW.out, HD1.out.2, HF.out⟩
                case round =>
                  obtain ⟨j, dj, rfl, hjb, hky, HJ⟩ := hrel
                  obtain ⟨G, HG, hcw, hfw⟩ := HJ.out.1.fam HJ.out.2.1
                  by_cases hj1 : 1 ≤ j
                  · cases hl : lN (G j) (G (j - 1))
                    all_goals have HL : Hid (lN (G j) (G (j - 1)) = _) := hl
                    all_goals clear hl
                    all_goals go_wp2_with fail
                    all_goals go_quiet (first | (go_at_call 64; refine Calls.quiet_of_same (less_any _ _ _)))
                    all_goals simp only [HL.out]
                    · go_wp2_with fail
                      go_meet
                      have e := HJ.out.2.2
                      rw [shd_no (.inr (by rw [← HG.out, ← HG.out]; exact HL.out))] at e
                      subst e
                      exact ⟨rfl, HJ.out.1.drewN nq, HJ.out.2.1⟩
                    · go_wp2_with fail
                      go_region
                      all_goals go_wp2
                      go_roundg (j - 1)
                      case measure => omega
                      case rel =>
                        refine ⟨j - 1, Sort.swp dj j (j - 1), by congr 1; omega, by omega, rfl, ?_, by rw [Sort.size_swp]; exact HJ.out.2.1, ?_⟩
                        · rw [HG.out, HG.out]
                          exact HJ.out.1.swap (by rw [HJ.out.2.1]; omega) (by rw [HJ.out.2.1]; omega) _
                        · rw [HJ.out.2.2]
                          exact shd_go hj1 (by rw [← HG.out, ← HG.out]; exact HL.out)
                  · have hj0 : ¬ (1 : Int) ≤ (j : Int) := by omega
                    go_wp2_with fail
                    go_meet
                    have e := HJ.out.2.2
                    rw [shd_no (.inl hj1)] at e
                    subst e
                    exact ⟨rfl, HJ.out.1, HJ.out.2.1⟩
              · have h2I : ¬ (2 : Int) ≤ (i2 : Int) - (a : Int) := by omega
                go_wp2_with fail
                go_meet
                have e := HD2.out
                unfold fixDn at e
                rw [if_neg h2] at e
                subst e
                exact ⟨rfl, HSW.out, HD1.out.2⟩
            case rest =>
              obtain ⟨rfl, H5⟩ := hcut
              by_cases h2 : 2 ≤ b - i2
              · have h2I : (2 : Int) ≤ (b : Int) - (i2 : Int) := by omega
                have HF : Hid (d3 = Sort.shiftUp lN b (i2 + 1) d2) := by have := HD3.out; unfold fixU at this; rw [if_pos h2] at this; exact this
                go_wp2_with fail
                go_loopg [10] (b - (i2 + 1)) (fun ky s wq => ∃ (j : Nat) (dj : Array Nat), s = .int .i64 (j : Int) ∧ i2 < j ∧ j ≤ b ∧ ky = b - j ∧ Hid (Rw w wq g o dj ∧ dj.size = n ∧ d3 = Sort.shiftUp lN b j dj))
                case atStart => exact ⟨i2 + 1, d2, by go_num, by omega, by omega, rfl, H5.out.1, H5.out.2, HF.out⟩
                case round =>
                  obtain ⟨j, dj, rfl, hij, hjb, hky, HJ⟩ := hrel
                  obtain ⟨G, HG, hcw, hfw⟩ := HJ.out.1.fam HJ.out.2.1
                  by_cases hj1 : j < b
                  · cases hl : lN (G j) (G (j - 1))
                    all_goals have HL : Hid (lN (G j) (G (j - 1)) = _) := hl
                    all_goals clear hl
                    all_goals go_wp2_with fail
                    all_goals go_quiet (first | (go_at_call 64; refine Calls.quiet_of_same (less_any _ _ _)))
                    all_goals simp only [HL.out]
                    · have e := HJ.out.2.2
                      rw [shu_no (.inr (by rw [← HG.out, ← HG.out]; exact HL.out))] at e
                      subst e
                      go_wp2
                      go_roundg s
                      case measure => omega
                      case rel => exact ⟨i2, k + 1, d3, rfl, by go_num, by omega, hi2b, by omega, HJ.out.1.drewN nq, HJ.out.2.1, HQ3.out⟩
                    · go_wp2_with fail
                      go_region
                      all_goals go_wp2
                      go_roundg (b - (j + 1))
                      case measure => omega
                      case rel =>
                        refine ⟨j + 1, Sort.swp dj j (j - 1), by go_num, by omega, by omega, rfl, ?_, by rw [Sort.size_swp]; exact HJ.out.2.1, ?_⟩
                        · rw [HG.out, HG.out]
                          exact HJ.out.1.swap (by rw [HJ.out.2.1]; omega) (by rw [HJ.out.2.1]; omega) _
                        · rw [HJ.out.2.2]
                          exact shu_go hj1 (by rw [← HG.out, ← HG.out]; exact HL.out)
                  · have e := HJ.out.2.2
                    rw [shu_no (.inl hj1)] at e
                    subst e
                    go_wp2
                    go_roundg s
                    case measure => omega
                    case rel => exact ⟨i2, k + 1, d3, rfl, by go_num, by omega, hi2b, by omega, HJ.out.1, HJ.out.2.1, HQ3.out⟩
              · have h2I : ¬ (2 : Int) ≤ (b : Int) - (i2 : Int) := by omega
                have e := HD3.out
                unfold fixU at e
                rw [if_neg h2] at e
                subst e
                go_wp2
                go_roundg s
                case measure => omega
                case rel => exact ⟨i2, k + 1, d3, rfl, by go_num, by omega, hi2b, by omega, H5.out.1, H5.out.2, HQ3.out⟩
end Go.Proofs.Ytcdfgcjecmpjhaa
