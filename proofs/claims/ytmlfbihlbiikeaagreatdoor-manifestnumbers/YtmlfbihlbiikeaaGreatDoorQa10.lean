/- The contract of the library's partial sort by insertion at rows of uint64. -/
import Derived.Test.YtmlfbihlbiikeaaGreatDoorQa07
import Derived.Deep.DeepCutAuto
import Derived.Deep.CutBlock
import Derived.Test.YtmlfbihlbiikeaaGreatDoorQa08
import Derived.Test.YtmlfbihlbiikeaaGreatDoorQa39
import Derived.Test.YtmlfbihlbiikeaaGreatDoorQa09
namespace Go.Proofs.YtmlfbihlbiikeaaGreatDoor
open Go.RowKit
set_option linter.unusedVariables false
set_option linter.unusedSimpArgs false
theorem srt_go {d : Array Nat} {b i : Nat} (h : i < b) (hl : lN d[i]! d[i - 1]! = false) : Sort.scanSorted lN d b i = Sort.scanSorted lN d b (i + 1) := by
  rw [Sort.scanSorted, if_pos (by rw [hl]; simpa using h)]
theorem srt_no {d : Array Nat} {b i : Nat} (h : ¬ i < b ∨ lN d[i]! d[i - 1]! = true) : Sort.scanSorted lN d b i = i := by
  rw [Sort.scanSorted, if_neg]
  rw [Bool.and_eq_true, decide_eq_true_eq]
  rintro ⟨h1, h2⟩
  rcases h with h | h
  · exact h h1
  · rw [h] at h2
    cases h2
theorem shd_go {d : Array Nat} {j : Nat} (h : 1 ≤ j) (hl : lN d[j]! d[j - 1]! = true) : Sort.shiftDown lN j d = Sort.shiftDown lN (j - 1) (Sort.swp d j (j - 1)) := by
  cases j with
  | zero => omega
  | succ k =>
    rw [Nat.add_sub_cancel] at hl ⊢
    rw [Sort.shiftDown, if_neg (by rw [hl]; decide)]
theorem shd_no {d : Array Nat} {j : Nat} (h : ¬ 1 ≤ j ∨ lN d[j]! d[j - 1]! = false) : Sort.shiftDown lN j d = d := by
  cases j with
  | zero => rw [Sort.shiftDown]
  | succ k =>
    rcases h with h | h
    · omega
    · rw [Nat.add_sub_cancel] at h
      rw [Sort.shiftDown, if_pos (by rw [h]; rfl)]
theorem shu_go {d : Array Nat} {b j : Nat} (h : j < b) (hl : lN d[j]! d[j - 1]! = true) : Sort.shiftUp lN b j d = Sort.shiftUp lN b (j + 1) (Sort.swp d j (j - 1)) := by
  rw [Sort.shiftUp, if_pos h, if_neg (by rw [hl]; decide)]
theorem shu_no {d : Array Nat} {b j : Nat} (h : ¬ j < b ∨ lN d[j]! d[j - 1]! = false) : Sort.shiftUp lN b j d = d := by
  rw [Sort.shiftUp]
  by_cases hj : j < b
  · rw [if_pos hj, if_pos]
    rcases h with h | h
    · exact absurd hj h
    · rw [h]; rfl
  · rw [if_neg hj]
def fixDn (a i : Nat) (d : Array Nat) : Array Nat := if 2 ≤ i - a then Sort.shiftDown lN (i - 1) d else d
def fixU (b i : Nat) (d : Array Nat) : Array Nat := if 2 ≤ b - i then Sort.shiftUp lN b (i + 1) d else d
theorem pins_step {a b s i i2 : Nat} {d : Array Nat} (h : Sort.scanSorted lN d b i = i2) : Sort.partialIns lN a b (s + 1) i d = if i2 = b then (d, true) else if b - a < 50 then (d, false) else Sort.partialIns lN a b s i2 (fixU b i2 (fixDn a i2 (Sort.swp d i2 (i2 - 1)))) := by
  rw [Sort.partialIns]
  simp only [h]
  rfl
set_option maxRecDepth 100000 in
set_option maxHeartbeats 32000000 in
theorem pins_at (g o c a b n : Nat) (d : Array Nat) (w : World) (hR : Rw w w g o d) (hn : d.size = n) (hab : a < b) (hb : b ≤ n) (hm : n < 2305843009213693952) :
    Calls Tryz.prog 247 #[.slice (some ⟨g, o, none⟩) n c, .int .i64 (a : Int), .int .i64 (b : Int)] w fun e w' => e = .returned (.bool (Sort.partialInsertionSort lN d a b).2) ∧ Rw w w' g o (Sort.partialInsertionSort lN d a b).1 := by
  have HR : Hid (Rw w w g o d ∧ d.size = n) := ⟨hR, hn⟩
  obtain ⟨res, hres, HE⟩ : ∃ res, res = Sort.partialInsertionSort lN d a b ∧ Hid (res = Sort.partialIns lN a b 5 (a + 1) d) := ⟨_, rfl, rfl⟩
  rw [← hres]
  clear hR hn hres
  go_enter Tryz.func247, Tryz.ntmps247
  go_wp2_with fail
  go_loopg [7, 8] 5 (fun kx s7 s8 wr => ∃ (i k : Nat) (di : Array Nat), s7 = .int .i64 (i : Int) ∧ s8 = .int .i64 (k : Int) ∧ a < i ∧ i ≤ b ∧ k + kx = 5 ∧ Hid (Rw w wr g o di ∧ di.size = n ∧ res = Sort.partialIns lN a b kx i di))
  case atStart => exact ⟨a + 1, 0, d, by go_num, rfl, by omega, by omega, by omega, HR.out.1, HR.out.2, HE.out⟩
  case round =>
    obtain ⟨i, k, di, rfl, rfl, hai, hib, hkx, HI⟩ := hrel
    cases gk with
    | zero =>
      obtain rfl : k = 5 := by omega
      go_wp2
      go_ret
      rw [HI.out.2.2]
      exact ⟨ret1 rfl, HI.out.1⟩
    | succ s =>
      have hk5 : k < 5 := by omega
      go_upto_block 2 with fail
      go_cut [7] (fun s wz => ∃ i2 : Nat, s = .int .i64 (i2 : Int) ∧ i ≤ i2 ∧ i2 ≤ b ∧ Hid (Rw w wz g o di ∧ Sort.scanSorted lN di b i = i2))
      case first =>
        go_wp2_with fail
        go_loopg [7] (b - i) (fun ky s wq => ∃ i1 : Nat, s = .int .i64 (i1 : Int) ∧ i ≤ i1 ∧ i1 ≤ b ∧ ky = b - i1 ∧ Hid (Rw w wq g o di ∧ Sort.scanSorted lN di b i1 = Sort.scanSorted lN di b i))
        case atStart => exact ⟨i, rfl, Nat.le_refl _, hib, rfl, HI.out.1, rfl⟩
        case round =>
          obtain ⟨i1, rfl, hii, hi1b, hky, HV⟩ := hrel
          obtain ⟨G, HG, hcw, hfw⟩ := HV.out.1.fam HI.out.2.1
          by_cases hle : i1 < b
          · cases hl : lN (G i1) (G (i1 - 1))
            all_goals have HL : Hid (lN (G i1) (G (i1 - 1)) = _) := hl
            all_goals clear hl
            all_goals go_wp2_with fail
            all_goals go_quiet (first | (go_at_call 248; refine Calls.quiet_of_same (less_any _ _ _)))
            all_goals simp only [HL.out]
            · go_wp2
              go_roundg (b - (i1 + 1))
              case measure => omega
              case rel => exact ⟨i1 + 1, by go_num, by omega, by omega, rfl, HV.out.1.drewN nq, by rw [← HV.out.2]; exact (srt_go hle (by rw [← HG.out, ← HG.out]; exact HL.out)).symm⟩
            · go_wp2_with fail
              go_meet
              exact ⟨i1, rfl, by omega, by omega, HV.out.1.drewN nq, by rw [← HV.out.2]; exact srt_no (.inr (by rw [← HG.out, ← HG.out]; exact HL.out))⟩
          · go_wp2_with fail
            go_quiet (first | (go_at_call 248; refine Calls.quiet_of_same (less_any _ _ _)))
            go_wp2_with fail
            go_meet
            exact ⟨i1, rfl, by omega, by omega, HV.out.1.drewN nq, by rw [← HV.out.2]; exact srt_no (.inl hle)⟩
      case rest =>
        obtain ⟨i2, rfl, hil, hi2b, HU⟩ := hcut
        have HQ : Hid (res = _) := HI.out.2.2.trans (pins_step HU.out.2)
        by_cases he : i2 = b
        · have HQ2 : Hid (res = (di, true)) := by have := HQ.out; rw [if_pos he] at this; exact this
          have heb : ((i2 : Int) == (b : Int)) = true := beq_iff_eq.2 (by omega)
          clear HQ
          go_wp2
          go_ret
          rw [HQ2.out]
          exact ⟨ret1 rfl, HU.out.1⟩
        · have heb : ((i2 : Int) == (b : Int)) = false := beq_eq_false_iff_ne.2 (by omega)
          by_cases h50 : b - a < 50
          · have HQ2 : Hid (res = (di, false)) := by have := HQ.out; rw [if_neg he, if_pos h50] at this; exact this
            have h50I : (b : Int) - (a : Int) < 50 := by omega
            clear HQ
            go_wp2
            go_ret
            rw [HQ2.out]
            exact ⟨ret1 rfl, HU.out.1⟩
          · have HQ2 : Hid (res = Sort.partialIns lN a b s i2 (fixU b i2 (fixDn a i2 (Sort.swp di i2 (i2 - 1))))) := by have := HQ.out; rw [if_neg he, if_neg h50] at this; exact this
            have h50I : ¬ (b : Int) - (a : Int) < 50 := by omega
            clear HQ
            obtain ⟨d1, HD1⟩ : ∃ d1, Hid (d1 = Sort.swp di i2 (i2 - 1) ∧ d1.size = n) := ⟨_, rfl, by rw [Sort.size_swp]; exact HI.out.2.1⟩
            obtain ⟨d2, HD2⟩ : ∃ d2, Hid (d2 = fixDn a i2 d1) := ⟨_, rfl⟩
            obtain ⟨d3, HD3⟩ : ∃ d3, Hid (d3 = fixU b i2 d2) := ⟨_, rfl⟩
            have HQ3 : Hid (res = Sort.partialIns lN a b s i2 d3) := by rw [HD3.out, HD2.out, HD1.out.1]; exact HQ2.out
            clear HQ2
            obtain ⟨G, HG, hcw, hfw⟩ := HU.out.1.fam HI.out.2.1
            have HSW : Hid (Rw w ((wc.setCell ⟨g, o + i2, none⟩ (.int .u64 (G (i2 - 1) : Int))).setCell ⟨g, o + (i2 - 1), none⟩ (.int .u64 (G i2 : Int))).drew g o d1) := by
              rw [HG.out, HG.out, HD1.out.1]
              exact HU.out.1.swap (by rw [HI.out.2.1]; omega) (by rw [HI.out.2.1]; omega) 1
            go_wp2_with fail
            go_region
            all_goals go_upto_if 61 with fail
            generalize ((wc.setCell ⟨g, o + i2, none⟩ (.int .u64 (G (i2 - 1) : Int))).setCell ⟨g, o + (i2 - 1), none⟩ (.int .u64 (G i2 : Int))).drew = W1 at HSW ⊢
            clear hcw hfw
            go_cut [7] (fun s wz => s = .int .i64 (i2 : Int) ∧ Hid (Rw w wz g o d2 ∧ d2.size = n))
            case first =>
              by_cases h2 : 2 ≤ i2 - a
              · have h2I : (2 : Int) ≤ (i2 : Int) - (a : Int) := by omega
                have HF : Hid (d2 = Sort.shiftDown lN (i2 - 1) d1) := by have := HD2.out; unfold fixDn at this; rw [if_pos h2] at this; exact this
                go_wp2_with fail
                go_loopg [9] (i2 - 1) (fun ky s wq => ∃ (j : Nat) (dj : Array Nat), s = .int .i64 (j : Int) ∧ j < b ∧ ky = j ∧ Hid (Rw w wq g o dj ∧ dj.size = n ∧ d2 = Sort.shiftDown lN j dj))
                case atStart => exact ⟨i2 - 1, d1, by congr 1; omega, by omega, rfl, HSW.out, HD1.out.2, HF.out⟩
                case round =>
                  obtain ⟨j, dj, rfl, hjb, hky, HJ⟩ := hrel
                  obtain ⟨G, HG, hcw, hfw⟩ := HJ.out.1.fam HJ.out.2.1
                  by_cases hj1 : 1 ≤ j
                  · cases hl : lN (G j) (G (j - 1))
                    all_goals have HL : Hid (lN (G j) (G (j - 1)) = _) := hl
                    all_goals clear hl
                    all_goals go_wp2_with fail
                    all_goals go_quiet (first | (go_at_call 248; refine Calls.quiet_of_same (less_any _ _ _)))
                    all_goals simp only [HL.out]
                    · go_wp2_with fail
                      go_meet
                      have e := HJ.out.2.2
                      rw [shd_no (.inr (by rw [← HG.out, ← HG.out]; exact HL.out))] at e
                      subst e
                      exact ⟨rfl, HJ.out.1.drewN nq, HJ.out.2.1⟩
                    · go_wp2_with fail
                      go_region
                      all_goals go_wp2
                      go_roundg (j - 1)
                      case measure => omega
                      case rel =>
                        refine ⟨j - 1, Sort.swp dj j (j - 1), by congr 1; omega, by omega, rfl, ?_, by rw [Sort.size_swp]; exact HJ.out.2.1, ?_⟩
                        · rw [HG.out, HG.out]
                          exact HJ.out.1.swap (by rw [HJ.out.2.1]; omega) (by rw [HJ.out.2.1]; omega) _
                        · rw [HJ.out.2.2]
                          exact shd_go hj1 (by rw [← HG.out, ← HG.out]; exact HL.out)
                  · have hj0 : ¬ (1 : Int) ≤ (j : Int) := by omega
                    go_wp2_with fail
                    go_meet
                    have e := HJ.out.2.2
                    rw [shd_no (.inl hj1)] at e
                    subst e
                    exact ⟨rfl, HJ.out.1, HJ.out.2.1⟩
              · have h2I : ¬ (2 : Int) ≤ (i2 : Int) - (a : Int) := by omega
                go_wp2_with fail
                go_meet
                have e := HD2.out
                unfold fixDn at e
                rw [if_neg h2] at e
                subst e
                exact ⟨rfl, HSW.out, HD1.out.2⟩
            case rest =>
              obtain ⟨rfl, H5⟩ := hcut
              by_cases h2 : 2 ≤ b - i2
              · have h2I : (2 : Int) ≤ (b : Int) - (i2 : Int) := by omega
                have HF : Hid (d3 = Sort.shiftUp lN b (i2 + 1) d2) := by have := HD3.out; unfold fixU at this; rw [if_pos h2] at this; exact this
                go_wp2_with fail
                go_loopg [10] (b - (i2 + 1)) (fun ky s wq => ∃ (j : Nat) (dj : Array Nat), s = .int .i64 (j : Int) ∧ i2 < j ∧ j ≤ b ∧ ky = b - j ∧ Hid (Rw w wq g o dj ∧ dj.size = n ∧ d3 = Sort.shiftUp lN b j dj))
                case atStart => exact ⟨i2 + 1, d2, by go_num, by omega, by omega, rfl, H5.out.1, H5.out.2, HF.out⟩
                case round =>
                  obtain ⟨j, dj, rfl, hij, hjb, hky, HJ⟩ := hrel
                  obtain ⟨G, HG, hcw, hfw⟩ := HJ.out.1.fam HJ.out.2.1
                  by_cases hj1 : j < b
                  · cases hl : lN (G j) (G (j - 1))
                    all_goals have HL : Hid (lN (G j) (G (j - 1)) = _) := hl
                    all_goals clear hl
                    all_goals go_wp2_with fail
                    all_goals go_quiet (first | (go_at_call 248; refine Calls.quiet_of_same (less_any _ _ _)))
                    all_goals simp only [HL.out]
                    · have e := HJ.out.2.2
                      rw [shu_no (.inr (by rw [← HG.out, ← HG.out]; exact HL.out))] at e
                      subst e
                      go_wp2
                      go_roundg s
                      case measure => omega
                      case rel => exact ⟨i2, k + 1, d3, rfl, by go_num, by omega, hi2b, by omega, HJ.out.1.drewN nq, HJ.out.2.1, HQ3.out⟩
                    · go_wp2_with fail
                      go_region
                      all_goals go_wp2
                      go_roundg (b - (j + 1))
                      case measure => omega
                      case rel =>
                        refine ⟨j + 1, Sort.swp dj j (j - 1), by go_num, by omega, by omega, rfl, ?_, by rw [Sort.size_swp]; exact HJ.out.2.1, ?_⟩
                        · rw [HG.out, HG.out]
                          exact HJ.out.1.swap (by rw [HJ.out.2.1]; omega) (by rw [HJ.out.2.1]; omega) _
                        · rw [HJ.out.2.2]
                          exact shu_go hj1 (by rw [← HG.out, ← HG.out]; exact HL.out)
                  · have e := HJ.out.2.2
                    rw [shu_no (.inl hj1)] at e
                    subst e
                    go_wp2
                    go_roundg s
                    case measure => omega
                    case rel => exact ⟨i2, k + 1, d3, rfl, by go_num, by omega, hi2b, by omega, HJ.out.1, HJ.out.2.1, HQ3.out⟩
              · have h2I : ¬ (2 : Int) ≤ (b : Int) - (i2 : Int) := by omega
                have e := HD3.out
                unfold fixU at e
                rw [if_neg h2] at e
                subst e
                go_wp2
                go_roundg s
                case measure => omega
                case rel => exact ⟨i2, k + 1, d3, rfl, by go_num, by omega, hi2b, by omega, H5.out.1, H5.out.2, HQ3.out⟩
end Go.Proofs.YtmlfbihlbiikeaaGreatDoor
namespace Go.Proofs.YtmlfbihlbiikeaaGreatDoor
open Go.RowKit
set_option linter.unusedVariables false
set_option linter.unusedSimpArgs false
structure Pq (w : World) (g o n a b : Nat) (d : Array Nat) (a' b' : Nat) (wr : World) (x : Array Nat) : Prop where
  rw : Rw w wr g o x
  size : x.size = n
  below : Sort.Below lN a' b' x
  cont : ∀ y, Sort.PermIn a' b' x y → Sort.SortedIn lN a' b' y → Sort.PermIn a b d y ∧ Sort.SortedIn lN a b y
theorem Pq.perm {w wr wr' : World} {g o n a b a' b' : Nat} {d x y : Array Nat} (h : Pq w g o n a b d a' b' wr x) (hb : b' ≤ n) (hr : Rw wr wr' g o y) (hp : Sort.PermIn a' b' x y) : Pq w g o n a b d a' b' wr' y :=
  ⟨h.rw.andThen hr, hp.1.trans h.size, h.below.perm (by rw [h.size]; exact hb) hp, fun z hz hs => h.cont z (Sort.permIn_trans _ _ _ _ _ hp hz) hs⟩
theorem Pq.same {w wr wr' : World} {g o n a b a' b' : Nat} {d x : Array Nat} (h : Pq w g o n a b d a' b' wr x) (hr : Rw wr wr' g o x) : Pq w g o n a b d a' b' wr' x :=
  ⟨h.rw.andThen hr, h.size, h.below, h.cont⟩
theorem Pq.drewN {w wr : World} {g o n a b a' b' : Nat} {d x : Array Nat} (h : Pq w g o n a b d a' b' wr x) (q : Nat) : Pq w g o n a b d a' b' (wr.drewN q) x :=
  ⟨h.rw.drewN q, h.size, h.below, h.cont⟩
theorem Pq.lt {w wr : World} {g o n a b a' b' : Nat} {d x : Array Nat} (h : Pq w g o n a b d a' b' wr x) (hg : g < w.heap.size) : g < wr.heap.size := Nat.lt_of_lt_of_le hg h.rw.chg.size
set_option maxRecDepth 100000 in
set_option maxHeartbeats 64000000 in
theorem pdq_at : ∀ (m : Nat) (g o c a b lim n : Nat) (d : Array Nat) (w : World), Rw w w g o d → g < w.heap.size → d.size = n → a ≤ b → b ≤ n → n < 65536 → lim ≤ 64 → b - a < m → Sort.Below lN a b d →
    Calls Tryz.prog 209 #[.slice (some ⟨g, o, none⟩) n c, .int .i64 (a : Int), .int .i64 (b : Int), .int .i64 (lim : Int)] w fun e w' => e = .returned (.tuple #[]) ∧ ∃ d', Rw w w' g o d' ∧ Sort.PermIn a b d d' ∧ Sort.SortedIn lN a b d' := by
  intro m
  induction m with
  | zero =>
    intro g o c a b lim n d w hR hg hn hab hb hm hlm hba hB
    omega
  | succ m ih =>
    intro g o c a b lim n d w hR hg hn hab hb hm hlm hba hB
    have IH : Hid (∀ (a' b' lim' : Nat) (x : Array Nat) (W : World), Rw W W g o x → g < W.heap.size → x.size = n → a' ≤ b' → b' ≤ n → lim' ≤ 64 → b' - a' < m → Sort.Below lN a' b' x → Calls Tryz.prog 209 #[.slice (some ⟨g, o, none⟩) n c, .int .i64 (a' : Int), .int .i64 (b' : Int), .int .i64 (lim' : Int)] W fun e w' => e = .returned (.tuple #[]) ∧ ∃ d', Rw W w' g o d' ∧ Sort.PermIn a' b' x d' ∧ Sort.SortedIn lN a' b' d') := fun a' b' lim' x W h1 h2 h3 h4 h5 h6 h7 h8 => ih g o c a' b' lim' n x W h1 h2 h3 h4 h5 hm h6 h7 h8
    have HP : Hid (Pq w g o n a b d a b w d ∧ g < w.heap.size) := ⟨⟨hR, hn, hB, fun y hy hs => ⟨hy, hs⟩⟩, hg⟩
    clear ih hR hg hn hB
    go_enter Tryz.func209, Tryz.ntmps209
    go_wp2_with fail
    go_loopg [1, 2, 3, 8, 9] (b - a) (fun kx s1 s2 s3 s8 s9 wr => ∃ (a' b' l' : Nat) (p8 p9 : Bool) (x : Array Nat), s1 = .int .i64 (a' : Int) ∧ s2 = .int .i64 (b' : Int) ∧ s3 = .int .i64 (l' : Int) ∧ s8 = .bool p8 ∧ s9 = .bool p9 ∧ a ≤ a' ∧ a' ≤ b' ∧ b' ≤ b ∧ l' ≤ 64 ∧ b' - a' ≤ kx ∧ Hid (Pq w g o n a b d a' b' wr x))
    case atStart => exact ⟨a, b, lim, true, true, d, rfl, rfl, rfl, rfl, rfl, Nat.le_refl _, hab, Nat.le_refl _, hlm, Nat.le_refl _, HP.out.1⟩
    case round =>
      obtain ⟨a', b', l', p8, p9, x, rfl, rfl, rfl, rfl, rfl, haa, hab', hbb, hl64, hkx, HX⟩ := hrel
      have hbn : b' ≤ n := by omega
      by_cases h12 : b' - a' ≤ 12
      · have h12I : (b' : Int) - (a' : Int) ≤ 12 := by omega
        have hi := ins_at g o c a' b' n x wr HX.out.rw.here HX.out.size hab' hbn (by omega)
        go_wp2_with fail
        refine hi.mono ?_
        rintro _ w1 ⟨rfl, hr1⟩
        go_wp2_with fail
        (try simp only [Exit.inBlock, Exit.then])
        refine bodyPost_ret (results_none rfl _ _ _) rfl ?_
        obtain ⟨hp, hs⟩ := Sort.insertionSort_holds (lt := lN) swoN x a' b' hab' (by rw [HX.out.size]; exact hbn)
        exact ⟨rfl, _, HX.out.rw.andThen hr1, (HX.out.cont _ hp hs).1, (HX.out.cont _ hp hs).2⟩
      · have h12I : ¬ (b' : Int) - (a' : Int) ≤ 12 := by omega
        by_cases hl0 : l' = 0
        · subst hl0
          have hi := heap_at g o c a' b' n x wr HX.out.rw.here HX.out.size (by omega) hbn (by omega)
          go_wp2_with fail
          refine hi.mono ?_
          rintro _ w1 ⟨rfl, hr1⟩
          go_wp2_with fail
          (try simp only [Exit.inBlock, Exit.then])
          refine bodyPost_ret (results_none rfl _ _ _) rfl ?_
          obtain ⟨hp, hs⟩ := Sort.heapSort_holds (lt := lN) swoN x a' b' hab' (by rw [HX.out.size]; exact hbn)
          exact ⟨rfl, _, HX.out.rw.andThen hr1, (HX.out.cont _ hp hs).1, (HX.out.cont _ hp hs).2⟩
        · have hl0b : ((l' : Int) == 0) = false := beq_eq_false_iff_ne.2 (by omega)
          go_upto_if 35 with fail
          go_cut [3] (fun s wz => ∃ (l2 : Nat) (x1 : Array Nat), s = .int .i64 (l2 : Int) ∧ l2 ≤ 64 ∧ Hid (Pq w g o n a b d a' b' wz x1))
          case first =>
            cases p8 with
            | true =>
              go_wp2_with fail
              go_meet
              exact ⟨l', x, rfl, hl64, HX.out⟩
            | false =>
              have hi := brk_at g o c a' b' n x wr HX.out.rw.here (HX.out.lt HP.out.2) HX.out.size (by omega) hbn hm
              go_wp2_with fail
              refine hi.mono ?_
              rintro _ w1 ⟨rfl, x1, hr1, hp1⟩
              have H1 : Hid (Pq w g o n a b d a' b' w1 x1) := HX.out.perm hbn hr1 hp1
              clear hr1 hp1 hi
              go_wp2_with fail
              go_meet
              exact ⟨l' - 1, x1, by congr 1; omega, by omega, H1.out⟩
          case rest =>
            obtain ⟨l2, x1, rfl, hl2, H1⟩ := hcut
            clear HX
            have hi := pivot_at g o c a' b' n x1 wc H1.out.rw.here (H1.out.lt HP.out.2) H1.out.size (by omega) hbn hm
            go_wp2_with fail
            refine hi.mono ?_
            rintro _ w2 ⟨pv, ht, rfl, hpa, hpb, hr2⟩
            have H2 : Hid (Pq w g o n a b d a' b' w2 x1) := H1.out.same hr2
            clear hr2 hi
            go_upto_if 50 with fail
            go_cut [11, 12] (fun s11 s12 wz => ∃ (p2 h2 : Nat) (x2 : Array Nat), s11 = .int .i64 (p2 : Int) ∧ s12 = .int .i64 (h2 : Int) ∧ a' ≤ p2 ∧ p2 < b' ∧ Hid (Pq w g o n a b d a' b' wz x2))
            case first =>
              by_cases hh : ht = 2
              · subst hh
                have hi := rev_at g o c a' b' n x1 w2 H2.out.rw.here H2.out.size (by omega) hbn (by omega)
                go_wp2_with fail
                refine hi.mono ?_
                rintro _ w3 ⟨rfl, hr3⟩
                have H3 : Hid (Pq w g o n a b d a' b' w3 (Sort.reverseRange x1 a' b')) := H2.out.perm hbn hr3 (Sort.reverseRange_holds x1 a' b' hab' (by rw [H2.out.size]; exact hbn))
                clear hr3 hi
                go_wp2_with fail
                go_meet
                exact ⟨(b' - 1) - (pv - a'), 1, _, by congr 1; omega, rfl, by omega, by omega, H3.out⟩
              · have hhb : ((ht : Int) == 2) = false := beq_eq_false_iff_ne.2 (by omega)
                go_wp2_with fail
                go_meet
                exact ⟨pv, ht, x1, rfl, rfl, hpa, hpb, H2.out⟩
            case rest =>
              obtain ⟨p2, h2, x2, rfl, rfl, hp2a, hp2b, H3⟩ := hcut
              clear H1 H2
              go_upto_region 15 with fail
              go_cut [68] (fun s wz => ∃ q : Bool, s = .bool q ∧ wz = wc)
              case first =>
                by_cases hh1 : h2 = 1
                · subst hh1
                  cases p8 <;> cases p9
                  all_goals go_wp2_with fail
                  all_goals go_meet
                  all_goals exact ⟨_, rfl, rfl⟩
                · have hhb : ((h2 : Int) == 1) = false := beq_eq_false_iff_ne.2 (by omega)
                  cases p8 <;> cases p9
                  all_goals go_wp2_with fail
                  all_goals go_meet
                  all_goals exact ⟨_, rfl, rfl⟩
              case rest =>
                obtain ⟨qb, rfl, rfl⟩ := hcut
                go_upto_if 68 with fail
                go_cut [11] (fun s11 wz => ∃ (x3 : Array Nat), s11 = .int .i64 (p2 : Int) ∧ Hid (Pq w g o n a b d a' b' wz x3))
                case first =>
                  cases qb with
                  | false =>
                    go_wp2_with fail
                    go_meet
                    exact ⟨x2, rfl, H3.out⟩
                  | true =>
                    have hi := pins_at g o c a' b' n x2 wc H3.out.rw.here H3.out.size (by omega) hbn (by omega)
                    have HPI : Hid (Sort.PermIn a' b' x2 (Sort.partialInsertionSort lN x2 a' b').1 ∧ ((Sort.partialInsertionSort lN x2 a' b').2 = true → Sort.SortedIn lN a' b' (Sort.partialInsertionSort lN x2 a' b').1)) := Sort.partialInsertionSort_holds (lt := lN) swoN x2 a' b' (by omega) (by rw [H3.out.size]; exact hbn) H3.out.below
                    generalize Sort.partialInsertionSort lN x2 a' b' = pr at hi HPI
                    obtain ⟨x3, q3⟩ := pr
                    simp only at hi HPI
                    go_wp2_with fail
                    refine hi.mono ?_
                    rintro _ w4 ⟨rfl, hr4⟩
                    have H4 : Hid (Pq w g o n a b d a' b' w4 x3) := H3.out.perm hbn hr4 HPI.out.1
                    clear hr4 hi
                    cases q3 with
                    | true =>
                      go_wp2_with fail
                      (try simp only [Exit.inBlock, Exit.then])
                      refine bodyPost_ret (results_none rfl _ _ _) rfl ?_
                      have hc := H4.out.cont x3 (Sort.permIn_refl _ _ _) (HPI.out.2 (by first | rfl | trivial))
                      exact ⟨rfl, x3, H4.out.rw, hc.1, hc.2⟩
                    | false =>
                      go_wp2_with fail
                      go_meet
                      exact ⟨x3, rfl, H4.out⟩
                case rest =>
                  obtain ⟨x3, rfl, H4⟩ := hcut
                  clear H3
                  obtain ⟨G, HG, hcw, hfw⟩ := H4.out.rw.fam H4.out.size
                  go_upto_region 17 with fail
                  go_cut [87] (fun s wz => s = .bool (decide (0 < a' ∧ lN (G (a' - 1)) (G p2) = false)) ∧ Hid (Pq w g o n a b d a' b' wz x3))
                  case first =>
                    by_cases ha0 : 0 < a'
                    · have ha0I : (0 : Int) < (a' : Int) := by omega
                      cases hl : lN (G (a' - 1)) (G p2)
                      all_goals have HL : Hid (lN (G (a' - 1)) (G p2) = _) := hl
                      all_goals clear hl
                      all_goals go_quiet (first | (go_at_call 248; refine Calls.quiet_of_same (less_any _ _ _)))
                      all_goals simp only [HL.out]
                      all_goals go_wp2_with fail
                      all_goals go_meet
                      all_goals exact ⟨by rw [HL.out]; simp [ha0], H4.out.drewN nq⟩
                    · have ha0I : decide ((0 : Int) < (a' : Int)) = false := decide_eq_false (by omega)
                      go_quiet (first | (go_at_call 248; refine Calls.quiet_of_same (less_any _ _ _)))
                      go_wp2_with fail
                      go_meet
                      exact ⟨by simp [ha0], H4.out.drewN nq⟩
                  case rest =>
                    obtain ⟨rfl, H5⟩ := hcut
                    clear hcw hfw
                    by_cases hq : 0 < a' ∧ lN (G (a' - 1)) (G p2) = false
                    · have HQ : Hid (0 < a' ∧ lN x3[a' - 1]! x3[p2]! = false) := by rw [← HG.out, ← HG.out]; exact hq
                      rw [decide_eq_true hq]
                      have hi := parteq_at g o c a' b' p2 n x3 wc H5.out.rw.here H5.out.size hp2a hp2b hbn (by omega)
                      have HE : Hid (∀ mid x4, Sort.partitionEqual lN x3 a' b' p2 = (mid, x4) → _) := fun mid x4 hx => Sort.round_eq swoN (Sort.partitionEqual_holds lN) HQ.out.1 hp2a hp2b (by rw [H5.out.size]; exact hbn) H5.out.below HQ.out.2 hx
                      generalize hpr : Sort.partitionEqual lN x3 a' b' p2 = pr at hi HE
                      obtain ⟨mid, x4⟩ := pr
                      simp only at hi
                      have HE2 := HE.out mid x4 rfl
                      obtain ⟨hm1, hm2, hsz, hbl, hct⟩ := HE2
                      have HE3 : Hid (x4.size = x3.size ∧ Sort.Below lN mid b' x4 ∧ ∀ R, Sort.PermIn mid b' x4 R → Sort.SortedIn lN mid b' R → Sort.PermIn a' b' x3 R ∧ Sort.SortedIn lN a' b' R) := ⟨hsz, hbl, hct⟩
                      clear hsz hbl hct HE hq hpr
                      go_wp2_with fail
                      refine hi.mono ?_
                      rintro _ w5 ⟨rfl, hr5⟩
                      have H6 : Hid (Pq w g o n a b d mid b' w5 x4) := ⟨H5.out.rw.andThen hr5, HE3.out.1.trans H5.out.size, HE3.out.2.1, fun y hy hs => by
                        have := HE3.out.2.2 y hy hs
                        exact H5.out.cont y this.1 this.2⟩
                      clear hr5 hi
                      go_wp2
                      go_roundg (b' - mid)
                      case measure => omega
                      case rel => exact ⟨mid, b', l2, p8, p9, x4, rfl, rfl, rfl, rfl, rfl, by omega, by omega, by omega, hl2, Nat.le_refl _, H6.out⟩
                    · rw [decide_eq_false hq]
                      have hi := part_at g o c a' b' p2 n x3 wc H5.out.rw.here H5.out.size hp2a hp2b hbn (by omega)
                      have HE : Hid (∀ mid q4 x4, Sort.partition lN x3 a' b' p2 = (mid, q4, x4) → _) := fun mid q4 x4 hx => Sort.round_part swoN (Sort.partition_holds lN) hp2a hp2b (by rw [H5.out.size]; exact hbn) H5.out.below hx
                      generalize hpr : Sort.partition lN x3 a' b' p2 = pr at hi HE
                      obtain ⟨mid, q4, x4⟩ := pr
                      simp only at hi
                      have HE2 := HE.out mid q4 x4 rfl
                      obtain ⟨hm1, hm2, hsz, hbl, hbr, hcl, hcr⟩ := HE2
                      have HE3 : Hid (x4.size = x3.size ∧ Sort.Below lN a' mid x4 ∧ Sort.Below lN (mid + 1) b' x4 ∧ (∀ L, Sort.PermIn a' mid x4 L → Sort.SortedIn lN a' mid L → Sort.Below lN (mid + 1) b' L ∧ ∀ R, Sort.PermIn (mid + 1) b' L R → Sort.SortedIn lN (mid + 1) b' R → Sort.PermIn a' b' x3 R ∧ Sort.SortedIn lN a' b' R) ∧ (∀ L, Sort.PermIn (mid + 1) b' x4 L → Sort.SortedIn lN (mid + 1) b' L → Sort.Below lN a' mid L ∧ ∀ R, Sort.PermIn a' mid L R → Sort.SortedIn lN a' mid R → Sort.PermIn a' b' x3 R ∧ Sort.SortedIn lN a' b' R)) := ⟨hsz, hbl, hbr, hcl, hcr⟩
                      clear hsz hbl hbr hcl hcr HE hq hpr
                      go_wp2_with fail
                      refine hi.mono ?_
                      rintro _ w5 ⟨rfl, hr5⟩
                      have H6 : Hid (Rw w w5 g o x4 ∧ x4.size = n ∧ g < w5.heap.size) := ⟨H5.out.rw.andThen hr5, HE3.out.1.trans H5.out.size, Nat.lt_of_lt_of_le (H5.out.lt HP.out.2) hr5.chg.size⟩
                      clear hr5 hi
                      by_cases hlr : mid - a' < b' - mid
                      · have hlrI : (mid : Int) - (a' : Int) < (b' : Int) - (mid : Int) := by omega
                        go_wp2_with fail
                        refine (IH.out a' mid l2 x4 w5 H6.out.1.here H6.out.2.2 H6.out.2.1 hm1 (by omega) hl2 (by omega) HE3.out.2.1).mono ?_
                        rintro _ w6 ⟨rfl, x5, hr6, hp6, hs6⟩
                        have H7 : Hid (Pq w g o n a b d (mid + 1) b' w6 x5) := by
                          obtain ⟨hb5, hc5⟩ := HE3.out.2.2.2.1 x5 hp6 hs6
                          refine ⟨H6.out.1.andThen hr6, hp6.1.trans H6.out.2.1, hb5, fun y hy hs => ?_⟩
                          have := hc5 y hy hs
                          exact H5.out.cont y this.1 this.2
                        clear hr6 hp6 hs6
                        go_wp2
                        all_goals go_roundg (b' - (mid + 1))
                        all_goals first | omega | exact ⟨mid + 1, b', l2, _, q4, x5, by go_num, rfl, rfl, rfl, rfl, by omega, by omega, by omega, hl2, Nat.le_refl _, H7.out⟩
                      · have hlrI : ¬ (mid : Int) - (a' : Int) < (b' : Int) - (mid : Int) := by omega
                        have hi := IH.out (mid + 1) b' l2 x4 w5 H6.out.1.here H6.out.2.2 H6.out.2.1 (by omega) (by omega) hl2 (by omega) HE3.out.2.2.1
                        rw [show ((mid + 1 : Nat) : Int) = (mid : Int) + 1 by omega] at hi
                        go_wp2_with fail
                        refine hi.mono ?_
                        rintro _ w6 ⟨rfl, x5, hr6, hp6, hs6⟩
                        have H7 : Hid (Pq w g o n a b d a' mid w6 x5) := by
                          obtain ⟨hb5, hc5⟩ := HE3.out.2.2.2.2 x5 hp6 hs6
                          refine ⟨H6.out.1.andThen hr6, hp6.1.trans H6.out.2.1, hb5, fun y hy hs => ?_⟩
                          have := hc5 y hy hs
                          exact H5.out.cont y this.1 this.2
                        clear hr6 hp6 hs6 hi
                        go_wp2
                        all_goals go_roundg (mid - a')
                        all_goals first | omega | exact ⟨a', mid, l2, _, q4, x5, rfl, rfl, rfl, rfl, rfl, by omega, by omega, by omega, hl2, Nat.le_refl _, H7.out⟩
set_option maxRecDepth 100000 in
set_option maxHeartbeats 4000000 in
theorem sort_at (g o c n : Nat) (d : Array Nat) (w : World) (hR : Rw w w g o d) (hg : g < w.heap.size) (hn : d.size = n) (hm : n < 65536) :
    Calls Tryz.prog 163 #[.slice (some ⟨g, o, none⟩) n c] w fun e w' => e = .returned (.tuple #[]) ∧ ∃ d', Rw w w' g o d' ∧ Sort.PermIn 0 n d d' ∧ Sort.SortedIn lN 0 n d' := by
  have hl : Lib.bitLen n ≤ 64 := Lib.bitLen_le n 64 (by omega) (by omega)
  have HL : Hid (∀ W, Calls Tryz.prog 208 #[.int .u64 (n : Int)] W fun e w' => e = .returned (.int .i64 ((Lib.bitLen n : Nat) : Int)) ∧ W = w') := fun W => len_at n hm W
  have HP : Hid (∀ lim : Nat, lim ≤ 64 → Calls Tryz.prog 209 #[.slice (some ⟨g, o, none⟩) n c, .int .i64 0, .int .i64 (n : Int), .int .i64 (lim : Int)] w fun e w' => e = .returned (.tuple #[]) ∧ ∃ d', Rw w w' g o d' ∧ Sort.PermIn 0 n d d' ∧ Sort.SortedIn lN 0 n d') := fun lim hl => pdq_at (n + 1) g o c 0 n lim n d w hR hg hn (Nat.zero_le _) (Nat.le_refl _) hm hl (by omega) (.inl rfl)
  generalize Lib.bitLen n = L at HL hl
  clear hR hg hn
  go_enter Tryz.func163, Tryz.ntmps163
  go_wp2_with fail
  refine (HL.out _).mono ?_
  rintro _ w1 ⟨rfl, rfl⟩
  go_wp2_with fail
  refine (HP.out L hl).mono ?_
  rintro _ w2 ⟨rfl, hd⟩
  have H2 : Hid _ := hd
  clear hd HL HP
  go_wp2
  go_end0
  exact ⟨rfl, H2.out⟩
end Go.Proofs.YtmlfbihlbiikeaaGreatDoor
