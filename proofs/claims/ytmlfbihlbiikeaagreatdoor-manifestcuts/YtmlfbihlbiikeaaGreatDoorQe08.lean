/- The contracts of the library's sort by insertion, and of reversing, at rows of uint64. -/
import Derived.Test.YtmlfbihlbiikeaaGreatDoorQe04
import Derived.Test.YtmlfbihlbiikeaaGreatDoorQe01
set_option linter.unusedVariables false
set_option linter.unusedSimpArgs false
set_option maxRecDepth 100000
namespace Go.Proofs.YtmlfbihlbiikeaaGreatDoor
open Go.RowKit
theorem ins_go {a j : Nat} {d : Array Nat} (h : a < j) (hl : lN d[j]! d[j - 1]! = true) : Sort.insInner lN a j d = Sort.insInner lN a (j - 1) (Sort.swp d j (j - 1)) := by
 cases j with
 | zero => omega
 | succ k =>
  rw [Nat.add_sub_cancel] at hl ⊢
  rw [Sort.insInner, if_pos (by rw [hl]; simpa using h)]
theorem ins_no {a j : Nat} {d : Array Nat} (h : j ≤ a ∨ lN d[j]! d[j - 1]! = false) : Sort.insInner lN a j d = d := by
 cases j with
 | zero => rw [Sort.insInner]
 | succ k =>
  rw [Nat.add_sub_cancel] at h
  rw [Sort.insInner, if_neg]
  rw [Bool.and_eq_true, decide_eq_true_eq]
  rintro ⟨h1, h2⟩
  rcases h with h | h
  · omega
  · rw [h] at h2
    cases h2
set_option maxHeartbeats 8000000 in
theorem ins_at (g o c a b n : Nat) (d : Array Nat) (w : World) (hR : Rw w w g o d) (hn : d.size = n) (hab : a ≤ b) (hb : b ≤ n) (hm : n < 4611686018427387904) :
 Calls Tryz.prog 242 #[.slice (some ⟨g, o, none⟩) n c, .int .i64 (a : Int), .int .i64 (b : Int)] w fun e w' => e = .returned (.tuple #[]) ∧ Rw w w' g o (Sort.insertionSort lN d a b) := by
 have HR : Hid (Rw w w g o d ∧ d.size = n) := ⟨hR, hn⟩
 clear hR hn
 go_enter Tryz.func242, Tryz.ntmps242
 go_wp2
 go_loopg [6] (b - a) (fun kx s6 wr => ∃ (i : Nat) (di : Array Nat), s6 = .int .i64 (i : Int) ∧ a < i ∧ i ≤ b + 1 ∧ kx = b + 1 - i ∧ Hid (Rw w wr g o di ∧ di.size = n ∧ Sort.insOuter lN a b i di = Sort.insOuter lN a b (a + 1) d))
 case atStart => exact ⟨a + 1, d, by go_num, by omega, by omega, by omega, HR.out.1, HR.out.2, rfl⟩
 case round =>
  obtain ⟨i, di, rfl, hai, hib, rfl, HI⟩ := hrel
  by_cases hlt : i < b
  · go_wp2
    go_loopg [7] (i + 1) (fun kx s7 wq => ∃ (j : Nat) (dj : Array Nat), s7 = .int .i64 (j : Int) ∧ a ≤ j ∧ j ≤ i ∧ kx = j + 1 ∧ Hid (Rw w wq g o dj ∧ dj.size = n ∧ Sort.insInner lN a j dj = Sort.insInner lN a i di))
    case atStart => exact ⟨i, di, rfl, by omega, Nat.le_refl _, rfl, HI.out.1, HI.out.2.1, rfl⟩
    case round =>
     obtain ⟨j, dj, rfl, haj, hji, rfl, HJ⟩ := hrel
     obtain ⟨G, HG, hcw, hfw⟩ := HJ.out.1.fam HJ.out.2.1
     have OUT : Hid (Sort.insInner lN a j dj = dj → ∀ W, Rw w W g o dj → Rw w W g o dj ∧ dj.size = n ∧ Sort.insOuter lN a b (i + 1) dj = Sort.insOuter lN a b (a + 1) d) := fun he W hW => by
      refine ⟨hW, HJ.out.2.1, ?_⟩
      rw [← HI.out.2.2]
      conv => rhs; rw [Sort.insOuter, if_pos hlt, ← HJ.out.2.2, he]
     by_cases hja : a < j
     · cases hl : lN (G j) (G (j - 1))
       all_goals have HL : Hid (lN (G j) (G (j - 1)) = _) := hl
       all_goals clear hl
       all_goals go_wp2_with fail
       all_goals go_quiet (first | (go_at_call 248; refine Calls.quiet_of_same (less_any _ _ _)))
       all_goals simp only [HL.out]
       · go_wp2
         go_roundg (b - i)
         case measure => omega
         case rel => exact ⟨i + 1, dj, by go_num, by omega, by omega, by omega, OUT.out (ins_no (.inr (by rw [← HG.out, ← HG.out]; exact HL.out))) _ (HJ.out.1.drewN nq)⟩
       · go_wp2
         go_region
         all_goals go_wp2
         go_roundg j
         case measure => omega
         case rel =>
          refine ⟨j - 1, Sort.swp dj j (j - 1), by congr 1; omega, by omega, by omega, by omega, ?_, by rw [Sort.size_swp]; exact HJ.out.2.1, ?_⟩
          · rw [HG.out, HG.out]
            exact HJ.out.1.swap (by rw [HJ.out.2.1]; omega) (by rw [HJ.out.2.1]; omega) _
          · rw [← HJ.out.2.2, ins_go hja (by rw [← HG.out, ← HG.out]; exact HL.out)]
     · go_wp2_with fail
       go_quiet (first | (go_at_call 248; refine Calls.quiet_of_same (less_any _ _ _)))
       go_wp2
       go_roundg (b - i)
       case measure => omega
       case rel => exact ⟨i + 1, dj, by go_num, by omega, by omega, by omega, OUT.out (ins_no (.inl (by omega))) _ (HJ.out.1.drewN nq)⟩
  · go_wp2
    go_end0
    refine ⟨rfl, ?_⟩
    have h3 := HI.out.2.2
    rw [Sort.insOuter, if_neg hlt] at h3
    unfold Sort.insertionSort
    rw [← h3]
    exact HI.out.1
theorem rev_go {i j : Nat} {d : Array Nat} (h : i < j) : Sort.reverseLoop i j d = Sort.reverseLoop (i + 1) (j - 1) (Sort.swp d i j) := by
 rw [Sort.reverseLoop, if_pos h]
theorem rev_no {i j : Nat} {d : Array Nat} (h : ¬ i < j) : Sort.reverseLoop i j d = d := by
 rw [Sort.reverseLoop, if_neg h]
set_option maxHeartbeats 8000000 in
theorem rev_at (g o c a b n : Nat) (d : Array Nat) (w : World) (hR : Rw w w g o d) (hn : d.size = n) (hab : a < b) (hb : b ≤ n) (hm : n < 4611686018427387904) :
 Calls Tryz.prog 246 #[.slice (some ⟨g, o, none⟩) n c, .int .i64 (a : Int), .int .i64 (b : Int)] w fun e w' => e = .returned (.tuple #[]) ∧ Rw w w' g o (Sort.reverseRange d a b) := by
 have HR : Hid (Rw w w g o d ∧ d.size = n) := ⟨hR, hn⟩
 clear hR hn
 go_enter Tryz.func246, Tryz.ntmps246
 go_wp2
 go_loopg [6, 7] (b - a) (fun kx s6 s7 wr => ∃ (i j : Nat) (di : Array Nat), s6 = .int .i64 (i : Int) ∧ s7 = .int .i64 (j : Int) ∧ a ≤ i ∧ j < b ∧ i ≤ j + 1 ∧ kx = j + 1 - i ∧ Hid (Rw w wr g o di ∧ di.size = n ∧ Sort.reverseLoop i j di = Sort.reverseLoop a (b - 1) d))
 case atStart => exact ⟨a, b - 1, d, rfl, by congr 1; omega, by omega, by omega, by omega, by omega, HR.out.1, HR.out.2, rfl⟩
 case round =>
  obtain ⟨i, j, di, rfl, rfl, hai, hjb, hij, rfl, HI⟩ := hrel
  obtain ⟨G, HG, hcw, hfw⟩ := HI.out.1.fam HI.out.2.1
  by_cases hlt : i < j
  · go_wp2
    go_region
    all_goals go_wp2
    go_roundg (j - 1 + 1 - (i + 1))
    case measure => omega
    case rel =>
     refine ⟨i + 1, j - 1, Sort.swp di i j, by go_num, by congr 1; omega, by omega, by omega, by omega, rfl, ?_, by rw [Sort.size_swp]; exact HI.out.2.1, ?_⟩
     · rw [HG.out, HG.out]
       exact HI.out.1.swap (by rw [HI.out.2.1]; omega) (by rw [HI.out.2.1]; omega) _
     · rw [← HI.out.2.2]
       exact (rev_go hlt).symm
  · go_wp2
    go_end0
    refine ⟨rfl, ?_⟩
    have h3 := HI.out.2.2
    rw [rev_no hlt] at h3
    unfold Sort.reverseRange
    rw [← h3]
    exact HI.out.1
end Go.Proofs.YtmlfbihlbiikeaaGreatDoor
namespace Go.Proofs.YtmlfbihlbiikeaaGreatDoor
open Go.RowKit
theorem sift_end {hi f r : Nat} {d : Array Nat} (h : hi ≤ 2 * r + 1) : Sort.siftDown lN hi f r d = d := by
 rw [Sort.siftDown, dif_pos h]
def kid (hi f r : Nat) (d : Array Nat) : Nat := if 2 * r + 1 + 1 < hi ∧ lN d[f + (2 * r + 1)]! d[f + (2 * r + 1) + 1]! = true then 2 * r + 2 else 2 * r + 1
theorem kid_lt {hi f r : Nat} {d : Array Nat} (h : ¬ hi ≤ 2 * r + 1) : r < kid hi f r d ∧ kid hi f r d < hi := by
 unfold kid
 split <;> omega
theorem sift_step {hi f r : Nat} {d : Array Nat} (h : ¬ hi ≤ 2 * r + 1) : Sort.siftDown lN hi f r d = if lN d[f + r]! d[f + kid hi f r d]! = true then Sort.siftDown lN hi f (kid hi f r d) (Sort.swp d (f + r) (f + kid hi f r d)) else d := by
 rw [Sort.siftDown, dif_neg h]
 unfold kid
 by_cases h1 : 2 * r + 1 + 1 < hi ∧ lN d[f + (2 * r + 1)]! d[f + (2 * r + 1) + 1]! = true
 · rw [if_pos h1, if_pos (by rw [h1.2]; simpa using h1.1)]
   cases lN d[f + r]! d[f + (2 * r + 2)]!
   · rfl
   · rw [if_neg (by decide), dif_pos (by omega), if_pos rfl]
 · rw [if_neg h1, if_neg (by rw [Bool.and_eq_true, decide_eq_true_eq]; exact h1)]
   cases lN d[f + r]! d[f + (2 * r + 1)]! <;> rfl
theorem sift_size {hi f : Nat} : ∀ (m r : Nat) (d : Array Nat), hi - r ≤ m → (Sort.siftDown lN hi f r d).size = d.size
 | m, r, d, h => by
  by_cases h1 : hi ≤ 2 * r + 1
  · rw [sift_end h1]
  · have hk := kid_lt (f := f) (d := d) h1
    rw [sift_step h1]
    split
    · cases m with
      | zero => omega
      | succ m => rw [sift_size m _ _ (by omega), Sort.size_swp]
    · rfl
set_option maxHeartbeats 8000000 in
theorem sift_at (g o c lo hi f n : Nat) (d : Array Nat) (w : World) (hR : Rw w w g o d) (hn : d.size = n) (hb : f + hi ≤ n) (hl : lo ≤ n) (hm : n < 2305843009213693952) :
 Calls Tryz.prog 263 #[.slice (some ⟨g, o, none⟩) n c, .int .i64 (lo : Int), .int .i64 (hi : Int), .int .i64 (f : Int)] w fun e w' => e = .returned (.tuple #[]) ∧ Rw w w' g o (Sort.siftDown lN hi f lo d) := by
 have HR : Hid (Rw w w g o d ∧ d.size = n) := ⟨hR, hn⟩
 clear hR hn
 go_enter Tryz.func263, Tryz.ntmps263
 go_wp2
 go_loopg [8] (hi + n - lo) (fun kx s8 wr => ∃ (r : Nat) (di : Array Nat), s8 = .int .i64 (r : Int) ∧ r ≤ n ∧ kx = hi + n - r ∧ Hid (Rw w wr g o di ∧ di.size = n ∧ Sort.siftDown lN hi f r di = Sort.siftDown lN hi f lo d))
 case atStart => exact ⟨lo, d, rfl, hl, rfl, HR.out.1, HR.out.2, rfl⟩
 case round =>
  obtain ⟨r, di, rfl, hrn, rfl, HI⟩ := hrel
  obtain ⟨G, HG, hcw, hfw⟩ := HI.out.1.fam HI.out.2.1
  by_cases hlt : hi ≤ 2 * r + 1
  · go_wp2
    go_end0
    refine ⟨rfl, ?_⟩
    rw [← HI.out.2.2, sift_end hlt]
    exact HI.out.1
  · obtain ⟨k, hk⟩ : ∃ k, k = 2 * r + 1 := ⟨_, rfl⟩
    have hkI : 2 * (r : Int) + 1 = (k : Int) := by omega
    have HS : Hid (Sort.siftDown lN hi f r di = if lN (G (f + r)) (G (f + kid hi f r di)) = true then Sort.siftDown lN hi f (kid hi f r di) (Sort.swp di (f + r) (f + kid hi f r di)) else di) := by
     rw [HG.out, HG.out]
     exact sift_step hlt
    have HK : Hid (kid hi f r di = if k + 1 < hi ∧ lN (G (f + k)) (G (f + k + 1)) = true then k + 1 else k) := by
     rw [HG.out, HG.out, hk]
     rfl
    have hkh : k < hi := by omega
    have hrk : r < k := by omega
    have HX : Hid (k = 2 * r + 1 ∧ ¬ hi ≤ 2 * r + 1) := ⟨hk, hlt⟩
    clear hk hlt
    go_wp2_with (simp only [hkI])
    have HM : Hid (∀ ch, kid hi f r di = ch → Sort.siftDown lN hi f r di = if lN (G (f + r)) (G (f + ch)) = true then Sort.siftDown lN hi f ch (Sort.swp di (f + r) (f + ch)) else di) := fun ch e => by
     subst e
     exact HS.out
    clear HS
    by_cases h2 : k + 1 < hi
    · have h2z : (k : Int) + 1 < (hi : Int) := by omega
      cases hl2 : lN (G (f + k)) (G (f + k + 1))
      all_goals have HL2 : Hid (lN (G (f + k)) (G (f + k + 1)) = _) := hl2
      all_goals clear hl2
      · have HKE : Hid (kid hi f r di = k) := by have := HK.out; rw [HL2.out, if_neg (by simp)] at this; exact this
        go_quiet (first | (go_at_call 248; refine Calls.quiet_of_same (less_any _ _ _)))
        simp only [HL2.out]
        clear h2z HL2 HK
        go_wp2_with fail
        revert nq
        intro nq1
        obtain ⟨G1, HG1, hcw1, hfw1⟩ := (HI.out.1.drewN nq1).fam HI.out.2.1
        have HR1 : Hid (Rw w (wr.drewN nq1) g o di) := HI.out.1.drewN nq1
        have HGG : Hid (∀ t, G1 t = G t) := fun t => by rw [HG1.out, HG.out]
        clear hcw hfw
        generalize wr.drewN nq1 = w1 at hcw1 hfw1 HR1 ⊢
        cases hl3 : lN (G1 (f + r)) (G1 (f + k))
        all_goals have HL3 : Hid (lN (G1 (f + r)) (G1 (f + k)) = _) := hl3
        all_goals clear hl3
        all_goals go_quiet (first | (go_at_call 248; refine Calls.quiet_of_same (less_any _ _ _)))
        all_goals simp only [HL3.out]
        · go_wp2_with fail
          (try simp only [Exit.inBlock, Exit.then])
          refine bodyPost_ret (results_none rfl _ _ _) rfl ?_
          refine ⟨rfl, ?_⟩
          have hs := HM.out k HKE.out
          rw [← HGG.out, ← HGG.out, HL3.out, if_neg (by decide)] at hs
          rw [← HI.out.2.2, hs]
          exact HR1.out.drewN nq
        · go_wp2_with fail
          go_region
          all_goals go_wp2
          go_roundg (hi + n - k)
          case measure => omega
          case rel =>
           have hs := HM.out k HKE.out
           rw [← HGG.out, ← HGG.out, HL3.out, if_pos rfl] at hs
           refine ⟨k, Sort.swp di (f + r) (f + k), rfl, by omega, rfl, ?_, by rw [Sort.size_swp]; exact HI.out.2.1, ?_⟩
           · rw [HG1.out, HG1.out]
             exact HR1.out.swap (by rw [HI.out.2.1]; omega) (by rw [HI.out.2.1]; omega) _
           · rw [← HI.out.2.2, hs]
      · have HKE : Hid (kid hi f r di = k + 1) := by have := HK.out; rw [HL2.out, if_pos ⟨h2, rfl⟩] at this; exact this
        go_quiet (first | (go_at_call 248; refine Calls.quiet_of_same (less_any _ _ _)))
        simp only [HL2.out]
        clear HL2 HK
        go_wp2_with fail
        obtain ⟨ch, hch⟩ : ∃ ch, ch = k + 1 := ⟨_, rfl⟩
        rw [← hch] at HKE
        have hchI : (k : Int) + 1 = (ch : Int) := by omega
        have hrc : r < ch := by omega
        have hcc : ch < hi := by omega
        simp only [hchI]
        clear hch hchI
        revert nq
        intro nq1
        obtain ⟨G1, HG1, hcw1, hfw1⟩ := (HI.out.1.drewN nq1).fam HI.out.2.1
        have HR1 : Hid (Rw w (wr.drewN nq1) g o di) := HI.out.1.drewN nq1
        have HGG : Hid (∀ t, G1 t = G t) := fun t => by rw [HG1.out, HG.out]
        clear hcw hfw
        generalize wr.drewN nq1 = w1 at hcw1 hfw1 HR1 ⊢
        cases hl3 : lN (G1 (f + r)) (G1 (f + ch))
        all_goals have HL3 : Hid (lN (G1 (f + r)) (G1 (f + ch)) = _) := hl3
        all_goals clear hl3
        all_goals go_quiet (first | (go_at_call 248; refine Calls.quiet_of_same (less_any _ _ _)))
        all_goals simp only [HL3.out]
        · go_wp2_with fail
          (try simp only [Exit.inBlock, Exit.then])
          refine bodyPost_ret (results_none rfl _ _ _) rfl ?_
          refine ⟨rfl, ?_⟩
          have hs := HM.out ch HKE.out
          rw [← HGG.out, ← HGG.out, HL3.out, if_neg (by decide)] at hs
          rw [← HI.out.2.2, hs]
          exact HR1.out.drewN nq
        · go_wp2_with fail
          go_region
          all_goals go_wp2
          go_roundg (hi + n - ch)
          case measure => omega
          case rel =>
           have hs := HM.out ch HKE.out
           rw [← HGG.out, ← HGG.out, HL3.out, if_pos rfl] at hs
           refine ⟨ch, Sort.swp di (f + r) (f + ch), rfl, by omega, rfl, ?_, by rw [Sort.size_swp]; exact HI.out.2.1, ?_⟩
           · rw [HG1.out, HG1.out]
             exact HR1.out.swap (by rw [HI.out.2.1]; omega) (by rw [HI.out.2.1]; omega) _
           · rw [← HI.out.2.2, hs]
    · have HKE : Hid (kid hi f r di = k) := by have := HK.out; rw [if_neg (by omega)] at this; exact this
      have h2z : decide ((k : Int) + 1 < (hi : Int)) = false := decide_eq_false (by omega)
      go_quiet (first | (go_at_call 248; refine Calls.quiet_of_same (less_any _ _ _)))
      clear h2z HK
      go_wp2_with fail
      revert nq
      intro nq1
      obtain ⟨G1, HG1, hcw1, hfw1⟩ := (HI.out.1.drewN nq1).fam HI.out.2.1
      have HR1 : Hid (Rw w (wr.drewN nq1) g o di) := HI.out.1.drewN nq1
      have HGG : Hid (∀ t, G1 t = G t) := fun t => by rw [HG1.out, HG.out]
      clear hcw hfw
      generalize wr.drewN nq1 = w1 at hcw1 hfw1 HR1 ⊢
      cases hl3 : lN (G1 (f + r)) (G1 (f + k))
      all_goals have HL3 : Hid (lN (G1 (f + r)) (G1 (f + k)) = _) := hl3
      all_goals clear hl3
      all_goals go_quiet (first | (go_at_call 248; refine Calls.quiet_of_same (less_any _ _ _)))
      all_goals simp only [HL3.out]
      · go_wp2_with fail
        (try simp only [Exit.inBlock, Exit.then])
        refine bodyPost_ret (results_none rfl _ _ _) rfl ?_
        refine ⟨rfl, ?_⟩
        have hs := HM.out k HKE.out
        rw [← HGG.out, ← HGG.out, HL3.out, if_neg (by decide)] at hs
        rw [← HI.out.2.2, hs]
        exact HR1.out.drewN nq
      · go_wp2_with fail
        go_region
        all_goals go_wp2
        go_roundg (hi + n - k)
        case measure => omega
        case rel =>
         have hs := HM.out k HKE.out
         rw [← HGG.out, ← HGG.out, HL3.out, if_pos rfl] at hs
         refine ⟨k, Sort.swp di (f + r) (f + k), rfl, by omega, rfl, ?_, by rw [Sort.size_swp]; exact HI.out.2.1, ?_⟩
         · rw [HG1.out, HG1.out]
           exact HR1.out.swap (by rw [HI.out.2.1]; omega) (by rw [HI.out.2.1]; omega) _
         · rw [← HI.out.2.2, hs]
set_option maxHeartbeats 8000000 in
theorem heap_at (g o c a b n : Nat) (d : Array Nat) (w : World) (hR : Rw w w g o d) (hn : d.size = n) (hab : a < b) (hb : b ≤ n) (hm : n < 2305843009213693952) :
 Calls Tryz.prog 243 #[.slice (some ⟨g, o, none⟩) n c, .int .i64 (a : Int), .int .i64 (b : Int)] w fun e w' => e = .returned (.tuple #[]) ∧ Rw w w' g o (Sort.heapSort lN d a b) := by
 have HR : Hid (Rw w w g o d ∧ d.size = n) := ⟨hR, hn⟩
 have HS : Hid (∀ W lo hi di, Rw W W g o di → di.size = n → a + hi ≤ n → lo ≤ n → Calls Tryz.prog 263 #[.slice (some ⟨g, o, none⟩) n c, .int .i64 ((lo : Nat) : Int), .int .i64 ((hi : Nat) : Int), .int .i64 (a : Int)] W fun e w' => e = .returned (.tuple #[]) ∧ Rw W w' g o (Sort.siftDown lN hi a lo di)) := fun W lo hi di h1 h2 h3 h4 => sift_at g o c lo hi a n di W h1 h2 h3 h4 hm
 obtain ⟨hi, hhi⟩ : ∃ hi, hi = b - a := ⟨_, rfl⟩
 have hhI : (b : Int) - (a : Int) = (hi : Int) := by omega
 have hh1 : 1 ≤ hi := by omega
 have hhn : a + hi ≤ n := by omega
 have HE : Hid (Sort.heapSort lN d a b = Sort.heapPop lN a hi (Sort.heapBuild lN hi a ((hi - 1) / 2 + 1) d)) := by unfold Sort.heapSort; rw [hhi]; rfl
 clear hR hn hhi
 go_enter Tryz.func243, Tryz.ntmps243
 go_wp2_with (simp only [hhI])
 clear hhI
 go_loopg [9] ((hi - 1) / 2 + 1) (fun kx s9 wr => ∃ (k : Nat) (di : Array Nat), s9 = .int .i64 ((k : Int) - 1) ∧ k ≤ hi ∧ kx = k ∧ Hid (Rw w wr g o di ∧ di.size = n ∧ Sort.heapBuild lN hi a k di = Sort.heapBuild lN hi a ((hi - 1) / 2 + 1) d))
 case atStart => exact ⟨(hi - 1) / 2 + 1, d, by congr 1; omega, by omega, rfl, HR.out.1, HR.out.2, rfl⟩
 case round =>
  obtain ⟨k, di, rfl, hkh, hkx, HI⟩ := hrel
  cases k with
  | succ m =>
   have e1 : ((m + 1 : Nat) : Int) - 1 = (m : Int) := by omega
   simp only [e1]
   clear e1
   go_wp2_with fail
   refine (HS.out _ m hi di HI.out.1.here HI.out.2.1 hhn (by omega)).mono ?_
   rintro _ w1 ⟨rfl, hr1⟩
   have H1 : Hid (Rw w w1 g o (Sort.siftDown lN hi a m di)) := HI.out.1.andThen hr1
   clear hr1
   go_wp2
   go_roundg m
   case measure => omega
   case rel =>
    refine ⟨m, Sort.siftDown lN hi a m di, rfl, by omega, rfl, H1.out, ?_, ?_⟩
    · rw [sift_size _ _ _ (Nat.le_refl _)]
      exact HI.out.2.1
    · rw [← HI.out.2.2]
      rfl
  | zero =>
   have HP : Hid (Rw w wr g o di ∧ di.size = n ∧ Sort.heapSort lN d a b = Sort.heapPop lN a hi di) := ⟨HI.out.1, HI.out.2.1, by rw [HE.out, ← HI.out.2.2]; rfl⟩
   have e1 : ((0 : Nat) : Int) - 1 = -1 := by omega
   simp only [e1]
   clear e1 hkx HI HE
   go_wp2
   go_loopg [10] hi (fun ky s10 wq => ∃ (k : Nat) (dk : Array Nat), s10 = .int .i64 ((k : Int) - 1) ∧ k ≤ hi ∧ ky = k ∧ Hid (Rw w wq g o dk ∧ dk.size = n ∧ Sort.heapPop lN a k dk = Sort.heapPop lN a hi di))
   case atStart => exact ⟨hi, di, rfl, Nat.le_refl _, rfl, HP.out.1, HP.out.2.1, rfl⟩
   case round =>
    obtain ⟨k, dk, rfl, hkh2, hky, HK⟩ := hrel
    cases k with
    | succ m =>
     have e1 : ((m + 1 : Nat) : Int) - 1 = (m : Int) := by omega
     simp only [e1]
     clear e1
     obtain ⟨G, HG, hcw, hfw⟩ := HK.out.1.fam HK.out.2.1
     by_cases hm0 : m = 0
     · subst hm0
       have HSW : Hid (Rw w ((wr.setCell ⟨g, o + a, none⟩ (.int .u64 (G a : Int))).setCell ⟨g, o + a, none⟩ (.int .u64 (G a : Int))).drew g o (Sort.swp dk a a)) := by
        rw [HG.out]
        exact HK.out.1.swap (by rw [HK.out.2.1]; omega) (by rw [HK.out.2.1]; omega) 1
       simp only [Int.ofNat_zero, Int.natCast_zero]
       go_wp2_with fail
       go_region
       all_goals go_wp2_with fail
       refine (HS.out _ 0 0 (Sort.swp dk a a) HSW.out.here (by rw [Sort.size_swp]; exact HK.out.2.1) (by omega) (by omega)).mono ?_
       rintro _ w1 ⟨rfl, hr1⟩
       have H1 : Hid (Rw w w1 g o (Sort.siftDown lN 0 a 0 (Sort.swp dk a a))) := HSW.out.andThen hr1
       clear hr1
       go_wp2
       go_roundg 0
       case measure => omega
       case rel =>
        refine ⟨0, Sort.siftDown lN 0 a 0 (Sort.swp dk a a), rfl, by omega, rfl, H1.out, ?_, ?_⟩
        · rw [sift_size _ _ _ (Nat.le_refl _), Sort.size_swp]
          exact HK.out.2.1
        · rw [← HK.out.2.2]
          rfl
     · have hne : 0 < m := by omega
       have HSW : Hid (Rw w ((wr.setCell ⟨g, o + a, none⟩ (.int .u64 (G (a + m) : Int))).setCell ⟨g, o + (a + m), none⟩ (.int .u64 (G a : Int))).drew g o (Sort.swp dk a (a + m))) := by
        rw [HG.out, HG.out]
        exact HK.out.1.swap (by rw [HK.out.2.1]; omega) (by rw [HK.out.2.1]; omega) 1
       go_wp2_with fail
       go_region
       all_goals go_wp2_with fail
       refine (HS.out _ 0 m (Sort.swp dk a (a + m)) HSW.out.here (by rw [Sort.size_swp]; exact HK.out.2.1) (by omega) (by omega)).mono ?_
       rintro _ w1 ⟨rfl, hr1⟩
       have H1 : Hid (Rw w w1 g o (Sort.siftDown lN m a 0 (Sort.swp dk a (a + m)))) := HSW.out.andThen hr1
       clear hr1
       go_wp2
       go_roundg m
       case measure => omega
       case rel =>
        refine ⟨m, Sort.siftDown lN m a 0 (Sort.swp dk a (a + m)), rfl, by omega, rfl, H1.out, ?_, ?_⟩
        · rw [sift_size _ _ _ (Nat.le_refl _), Sort.size_swp]
          exact HK.out.2.1
        · rw [← HK.out.2.2]
          rfl
    | zero =>
     have e1 : ((0 : Nat) : Int) - 1 = -1 := by omega
     simp only [e1]
     go_wp2
     go_end0
     refine ⟨rfl, ?_⟩
     rw [HP.out.2.2, ← HK.out.2.2]
     exact HK.out.1
end Go.Proofs.YtmlfbihlbiikeaaGreatDoor
namespace Go.Proofs.YtmlfbihlbiikeaaGreatDoor

def s1 (x : Nat) : Nat := if x % 2 = 1 then (x / 2) ^^^ 2197175160 else x / 2
def s1it : Nat → Nat → Nat
 | 0, x => x
 | k + 1, x => s1 (s1it k x)
def nib (x : Nat) : Nat := s1it 4 x
def crcHalf (x : Nat) : Nat := (x / 16) ^^^ nib (x % 16)
def crcByte (s c : Nat) : Nat := crcHalf (crcHalf (s ^^^ c))
def crcGo (s : Nat) (bs : List UInt8) : Nat := bs.foldl (fun s c => crcByte s c.toNat) s
def crc (bs : List UInt8) : Nat := 4294967295 ^^^ crcGo 4294967295 bs

theorem xor32 {a b : Nat} (ha : a < 4294967296) (hb : b < 4294967296) : a ^^^ b < 4294967296 := Nat.xor_lt_two_pow (n := 32) ha hb
theorem s1_lt {x : Nat} (h : x < 4294967296) : s1 x < 4294967296 := by
 unfold s1
 split
 · exact xor32 (by omega) (by omega)
 · omega
theorem s1it_lt : ∀ (k : Nat) {x : Nat}, x < 4294967296 → s1it k x < 4294967296
 | 0, _, h => h
 | k + 1, _, h => s1_lt (s1it_lt k h)
theorem nib_lt (x : Nat) (h : x < 4294967296) : nib x < 4294967296 := s1it_lt 4 h
theorem crcHalf_lt {x : Nat} (h : x < 4294967296) : crcHalf x < 4294967296 := xor32 (by omega) (nib_lt _ (by omega))
theorem crcByte_lt {s c : Nat} (h : s < 4294967296) (hc : c < 256) : crcByte s c < 4294967296 := crcHalf_lt (crcHalf_lt (xor32 h (by omega)))
theorem crcGo_lt : ∀ (bs : List UInt8) {s : Nat}, s < 4294967296 → crcGo s bs < 4294967296
 | [], _, h => h
 | c :: r, _, h => crcGo_lt r (crcByte_lt h (UInt8.toNat_lt c))
theorem crcGo_snoc (s : Nat) (bs : List UInt8) (c : UInt8) : crcGo s (bs ++ [c]) = crcByte (crcGo s bs) c.toNat := by simp [crcGo]
theorem crcGo_take (s : Nat) (bs : List UInt8) (k : Nat) (h : k < bs.length) : crcGo s (bs.take (k + 1)) = crcByte (crcGo s (bs.take k)) (bs.getD k 0).toNat := by
 rw [take_snoc bs k h, crcGo_snoc]
end Go.Proofs.YtmlfbihlbiikeaaGreatDoor
namespace Go.Proofs.YtmlfbihlbiikeaaGreatDoor

end Go.Proofs.YtmlfbihlbiikeaaGreatDoor
namespace Go.Proofs.YtmlfbihlbiikeaaGreatDoor

def m1 (y : Nat) : Nat := if y / 2147483648 = 1 then (y * 2 % 4294967296) ^^^ 517762881 else y * 2 % 4294967296
theorem m1_lt (y : Nat) : m1 y < 4294967296 := by
 unfold m1
 split
 · exact xor32 (Nat.mod_lt _ (by omega)) (by omega)
 · exact Nat.mod_lt _ (by omega)
def maskN (n : Nat) : Nat := (n / 32768 + n % 32768 * 131072 + 2726488792) % 4294967296
theorem maskN_lt (n : Nat) : maskN n < 4294967296 := Nat.mod_lt _ (by omega)
theorem mask_or (n : Nat) (h : n < 4294967296) : n / 32768 ||| n * 131072 % 4294967296 = n / 32768 + n % 32768 * 131072 := by
 have e : n * 131072 % 4294967296 = 2 ^ 17 * (n % 32768) := by omega
 have := Nat.two_pow_add_eq_or_of_lt (i := 17) (b := n / 32768) (show n / 32768 < 2 ^ 17 by omega) (n % 32768)
 rw [e, Nat.or_comm, ← this]
 omega
end Go.Proofs.YtmlfbihlbiikeaaGreatDoor
