/- The contracts of the library's heap sort at rows of uint64. -/
import Derived.Test.YtmlfbihlbiikeaaGreatDoorQa07
import Derived.Test.YtmlfbihlbiikeaaGreatDoorQa03
namespace Go.Proofs.YtmlfbihlbiikeaaGreatDoor
open Go.RowKit
set_option linter.unusedVariables false
set_option linter.unusedSimpArgs false
theorem sift_end {hi f r : Nat} {d : Array Nat} (h : hi ≤ 2 * r + 1) : Sort.siftDown lN hi f r d = d := by
  rw [Sort.siftDown, dif_pos h]
def kid (hi f r : Nat) (d : Array Nat) : Nat := if 2 * r + 1 + 1 < hi ∧ lN d[f + (2 * r + 1)]! d[f + (2 * r + 1) + 1]! = true then 2 * r + 2 else 2 * r + 1
theorem kid_lt {hi f r : Nat} {d : Array Nat} (h : ¬ hi ≤ 2 * r + 1) : r < kid hi f r d ∧ kid hi f r d < hi := by
  unfold kid
  split <;> omega
theorem sift_step {hi f r : Nat} {d : Array Nat} (h : ¬ hi ≤ 2 * r + 1) : Sort.siftDown lN hi f r d = if lN d[f + r]! d[f + kid hi f r d]! = true then Sort.siftDown lN hi f (kid hi f r d) (Sort.swp d (f + r) (f + kid hi f r d)) else d := by
  rw [Sort.siftDown, dif_neg h]
  unfold kid
  by_cases h1 : 2 * r + 1 + 1 < hi ∧ lN d[f + (2 * r + 1)]! d[f + (2 * r + 1) + 1]! = true
  · rw [if_pos h1, if_pos (by rw [h1.2]; simpa using h1.1)]
    cases lN d[f + r]! d[f + (2 * r + 2)]!
    · rfl
    · rw [if_neg (by decide), dif_pos (by omega), if_pos rfl]
  · rw [if_neg h1, if_neg (by rw [Bool.and_eq_true, decide_eq_true_eq]; exact h1)]
    cases lN d[f + r]! d[f + (2 * r + 1)]! <;> rfl
theorem sift_size {hi f : Nat} : ∀ (m r : Nat) (d : Array Nat), hi - r ≤ m → (Sort.siftDown lN hi f r d).size = d.size
  | m, r, d, h => by
    by_cases h1 : hi ≤ 2 * r + 1
    · rw [sift_end h1]
    · have hk := kid_lt (f := f) (d := d) h1
      rw [sift_step h1]
      split
      · cases m with
        | zero => omega
        | succ m => rw [sift_size m _ _ (by omega), Sort.size_swp]
      · rfl
set_option maxRecDepth 100000 in
set_option maxHeartbeats 8000000 in
theorem sift_at (g o c lo hi f n : Nat) (d : Array Nat) (w : World) (hR : Rw w w g o d) (hn : d.size = n) (hb : f + hi ≤ n) (hl : lo ≤ n) (hm : n < 2305843009213693952) :
    Calls Tryz.prog 263 #[.slice (some ⟨g, o, none⟩) n c, .int .i64 (lo : Int), .int .i64 (hi : Int), .int .i64 (f : Int)] w fun e w' => e = .returned (.tuple #[]) ∧ Rw w w' g o (Sort.siftDown lN hi f lo d) := by
  have HR : Hid (Rw w w g o d ∧ d.size = n) := ⟨hR, hn⟩
  clear hR hn
  go_enter Tryz.func263, Tryz.ntmps263
  go_wp2
  go_loopg [8] (hi + n - lo) (fun kx s8 wr => ∃ (r : Nat) (di : Array Nat), s8 = .int .i64 (r : Int) ∧ r ≤ n ∧ kx = hi + n - r ∧ Hid (Rw w wr g o di ∧ di.size = n ∧ Sort.siftDown lN hi f r di = Sort.siftDown lN hi f lo d))
  case atStart => exact ⟨lo, d, rfl, hl, rfl, HR.out.1, HR.out.2, rfl⟩
  case round =>
    obtain ⟨r, di, rfl, hrn, rfl, HI⟩ := hrel
    obtain ⟨G, HG, hcw, hfw⟩ := HI.out.1.fam HI.out.2.1
    by_cases hlt : hi ≤ 2 * r + 1
    · go_wp2
      go_end0
      refine ⟨rfl, ?_⟩
      rw [← HI.out.2.2, sift_end hlt]
      exact HI.out.1
    · obtain ⟨k, hk⟩ : ∃ k, k = 2 * r + 1 := ⟨_, rfl⟩
      have hkI : 2 * (r : Int) + 1 = (k : Int) := by omega
      have HS : Hid (Sort.siftDown lN hi f r di = if lN (G (f + r)) (G (f + kid hi f r di)) = true then Sort.siftDown lN hi f (kid hi f r di) (Sort.swp di (f + r) (f + kid hi f r di)) else di) := by
        rw [HG.out, HG.out]
        exact sift_step hlt
      have HK : Hid (kid hi f r di = if k + 1 < hi ∧ lN (G (f + k)) (G (f + k + 1)) = true then k + 1 else k) := by
        rw [HG.out, HG.out, hk]
        rfl
      have hkh : k < hi := by omega
      have hrk : r < k := by omega
      have HX : Hid (k = 2 * r + 1 ∧ ¬ hi ≤ 2 * r + 1) := ⟨hk, hlt⟩
      clear hk hlt
      go_wp2_with (simp only [hkI])
      have HM : Hid (∀ ch, kid hi f r di = ch → Sort.siftDown lN hi f r di = if lN (G (f + r)) (G (f + ch)) = true then Sort.siftDown lN hi f ch (Sort.swp di (f + r) (f + ch)) else di) := fun ch e => by
        subst e
        exact HS.out
      clear HS
      by_cases h2 : k + 1 < hi
      · have h2z : (k : Int) + 1 < (hi : Int) := by omega
        cases hl2 : lN (G (f + k)) (G (f + k + 1))
        all_goals have HL2 : Hid (lN (G (f + k)) (G (f + k + 1)) = _) := hl2
        all_goals clear hl2
        · have HKE : Hid (kid hi f r di = k) := by have := HK.out; rw [HL2.out, if_neg (by simp)] at this; exact this
          go_quiet (first | (go_at_call 248; refine Calls.quiet_of_same (less_any _ _ _)))
          simp only [HL2.out]
          clear h2z HL2 HK
          go_wp2_with fail
          revert nq
          intro nq1
          obtain ⟨G1, HG1, hcw1, hfw1⟩ := (HI.out.1.drewN nq1).fam HI.out.2.1
          have HR1 : Hid (Rw w (wr.drewN nq1) g o di) := HI.out.1.drewN nq1
          have HGG : Hid (∀ t, G1 t = G t) := fun t => by rw [HG1.out, HG.out]
          clear hcw hfw
          generalize wr.drewN nq1 = w1 at hcw1 hfw1 HR1 ⊢
          cases hl3 : lN (G1 (f + r)) (G1 (f + k))
          all_goals have HL3 : Hid (lN (G1 (f + r)) (G1 (f + k)) = _) := hl3
          all_goals clear hl3
          all_goals go_quiet (first | (go_at_call 248; refine Calls.quiet_of_same (less_any _ _ _)))
          all_goals simp only [HL3.out]
          · go_wp2_with fail
            (try simp only [Exit.inBlock, Exit.then])
            refine bodyPost_ret (results_none rfl _ _ _) rfl ?_
            refine ⟨rfl, ?_⟩
            have hs := HM.out k HKE.out
            rw [← HGG.out, ← HGG.out, HL3.out, if_neg (by decide)] at hs
            rw [← HI.out.2.2, hs]
            exact HR1.out.drewN nq
          · go_wp2_with fail
            go_region
            all_goals go_wp2
            go_roundg (hi + n - k)
            case measure => omega
            case rel =>
              have hs := HM.out k HKE.out
              rw [← HGG.out, ← HGG.out, HL3.out, if_pos rfl] at hs
              refine ⟨k, Sort.swp di (f + r) (f + k), rfl, by omega, rfl, ?_, by rw [Sort.size_swp]; exact HI.out.2.1, ?_⟩
              · rw [HG1.out, HG1.out]
                exact HR1.out.swap (by rw [HI.out.2.1]; omega) (by rw [HI.out.2.1]; omega) _
              · rw [← HI.out.2.2, hs]
        · have HKE : Hid (kid hi f r di = k + 1) := by have := HK.out; rw [HL2.out, if_pos ⟨h2, rfl⟩] at this; exact this
          go_quiet (first | (go_at_call 248; refine Calls.quiet_of_same (less_any _ _ _)))
          simp only [HL2.out]
          clear HL2 HK
          go_wp2_with fail
          obtain ⟨ch, hch⟩ : ∃ ch, ch = k + 1 := ⟨_, rfl⟩
          rw [← hch] at HKE
          have hchI : (k : Int) + 1 = (ch : Int) := by omega
          have hrc : r < ch := by omega
          have hcc : ch < hi := by omega
          simp only [hchI]
          clear hch hchI
          revert nq
          intro nq1
          obtain ⟨G1, HG1, hcw1, hfw1⟩ := (HI.out.1.drewN nq1).fam HI.out.2.1
          have HR1 : Hid (Rw w (wr.drewN nq1) g o di) := HI.out.1.drewN nq1
          have HGG : Hid (∀ t, G1 t = G t) := fun t => by rw [HG1.out, HG.out]
          clear hcw hfw
          generalize wr.drewN nq1 = w1 at hcw1 hfw1 HR1 ⊢
          cases hl3 : lN (G1 (f + r)) (G1 (f + ch))
          all_goals have HL3 : Hid (lN (G1 (f + r)) (G1 (f + ch)) = _) := hl3
          all_goals clear hl3
          all_goals go_quiet (first | (go_at_call 248; refine Calls.quiet_of_same (less_any _ _ _)))
          all_goals simp only [HL3.out]
          · go_wp2_with fail
            (try simp only [Exit.inBlock, Exit.then])
            refine bodyPost_ret (results_none rfl _ _ _) rfl ?_
            refine ⟨rfl, ?_⟩
            have hs := HM.out ch HKE.out
            rw [← HGG.out, ← HGG.out, HL3.out, if_neg (by decide)] at hs
            rw [← HI.out.2.2, hs]
            exact HR1.out.drewN nq
          · go_wp2_with fail
            go_region
            all_goals go_wp2
            go_roundg (hi + n - ch)
            case measure => omega
            case rel =>
              have hs := HM.out ch HKE.out
              rw [← HGG.out, ← HGG.out, HL3.out, if_pos rfl] at hs
              refine ⟨ch, Sort.swp di (f + r) (f + ch), rfl, by omega, rfl, ?_, by rw [Sort.size_swp]; exact HI.out.2.1, ?_⟩
              · rw [HG1.out, HG1.out]
                exact HR1.out.swap (by rw [HI.out.2.1]; omega) (by rw [HI.out.2.1]; omega) _
              · rw [← HI.out.2.2, hs]
      · have HKE : Hid (kid hi f r di = k) := by have := HK.out; rw [if_neg (by omega)] at this; exact this
        have h2z : decide ((k : Int) + 1 < (hi : Int)) = false := decide_eq_false (by omega)
        go_quiet (first | (go_at_call 248; refine Calls.quiet_of_same (less_any _ _ _)))
        clear h2z HK
        go_wp2_with fail
        revert nq
        intro nq1
        obtain ⟨G1, HG1, hcw1, hfw1⟩ := (HI.out.1.drewN nq1).fam HI.out.2.1
        have HR1 : Hid (Rw w (wr.drewN nq1) g o di) := HI.out.1.drewN nq1
        have HGG : Hid (∀ t, G1 t = G t) := fun t => by rw [HG1.out, HG.out]
        clear hcw hfw
        generalize wr.drewN nq1 = w1 at hcw1 hfw1 HR1 ⊢
        cases hl3 : lN (G1 (f + r)) (G1 (f + k))
        all_goals have HL3 : Hid (lN (G1 (f + r)) (G1 (f + k)) = _) := hl3
        all_goals clear hl3
        all_goals go_quiet (first | (go_at_call 248; refine Calls.quiet_of_same (less_any _ _ _)))
        all_goals simp only [HL3.out]
        · go_wp2_with fail
          (try simp only [Exit.inBlock, Exit.then])
          refine bodyPost_ret (results_none rfl _ _ _) rfl ?_
          refine ⟨rfl, ?_⟩
          have hs := HM.out k HKE.out
          rw [← HGG.out, ← HGG.out, HL3.out, if_neg (by decide)] at hs
          rw [← HI.out.2.2, hs]
          exact HR1.out.drewN nq
        · go_wp2_with fail
          go_region
          all_goals go_wp2
          go_roundg (hi + n - k)
          case measure => omega
          case rel =>
            have hs := HM.out k HKE.out
            rw [← HGG.out, ← HGG.out, HL3.out, if_pos rfl] at hs
            refine ⟨k, Sort.swp di (f + r) (f + k), rfl, by omega, rfl, ?_, by rw [Sort.size_swp]; exact HI.out.2.1, ?_⟩
            · rw [HG1.out, HG1.out]
              exact HR1.out.swap (by rw [HI.out.2.1]; omega) (by rw [HI.out.2.1]; omega) _
            · rw [← HI.out.2.2, hs]
set_option maxRecDepth 100000 in
set_option maxHeartbeats 8000000 in
theorem heap_at (g o c a b n : Nat) (d : Array Nat) (w : World) (hR : Rw w w g o d) (hn : d.size = n) (hab : a < b) (hb : b ≤ n) (hm : n < 2305843009213693952) :
    Calls Tryz.prog 243 #[.slice (some ⟨g, o, none⟩) n c, .int .i64 (a : Int), .int .i64 (b : Int)] w fun e w' => e = .returned (.tuple #[]) ∧ Rw w w' g o (Sort.heapSort lN d a b) := by
  have HR : Hid (Rw w w g o d ∧ d.size = n) := ⟨hR, hn⟩
  have HS : Hid (∀ W lo hi di, Rw W W g o di → di.size = n → a + hi ≤ n → lo ≤ n → Calls Tryz.prog 263 #[.slice (some ⟨g, o, none⟩) n c, .int .i64 ((lo : Nat) : Int), .int .i64 ((hi : Nat) : Int), .int .i64 (a : Int)] W fun e w' => e = .returned (.tuple #[]) ∧ Rw W w' g o (Sort.siftDown lN hi a lo di)) := fun W lo hi di h1 h2 h3 h4 => sift_at g o c lo hi a n di W h1 h2 h3 h4 hm
  obtain ⟨hi, hhi⟩ : ∃ hi, hi = b - a := ⟨_, rfl⟩
  have hhI : (b : Int) - (a : Int) = (hi : Int) := by omega
  have hh1 : 1 ≤ hi := by omega
  have hhn : a + hi ≤ n := by omega
  have HE : Hid (Sort.heapSort lN d a b = Sort.heapPop lN a hi (Sort.heapBuild lN hi a ((hi - 1) / 2 + 1) d)) := by unfold Sort.heapSort; rw [hhi]; rfl
  clear hR hn hhi
  go_enter Tryz.func243, Tryz.ntmps243
  go_wp2_with (simp only [hhI])
  clear hhI
  go_loopg [9] ((hi - 1) / 2 + 1) (fun kx s9 wr => ∃ (k : Nat) (di : Array Nat), s9 = .int .i64 ((k : Int) - 1) ∧ k ≤ hi ∧ kx = k ∧ Hid (Rw w wr g o di ∧ di.size = n ∧ Sort.heapBuild lN hi a k di = Sort.heapBuild lN hi a ((hi - 1) / 2 + 1) d))
  case atStart => exact ⟨(hi - 1) / 2 + 1, d, by congr 1; omega, by omega, rfl, HR.out.1, HR.out.2, rfl⟩
  case round =>
    obtain ⟨k, di, rfl, hkh, hkx, HI⟩ := hrel
    cases k with
    | succ m =>
      have e1 : ((m + 1 : Nat) : Int) - 1 = (m : Int) := by omega
      simp only [e1]
      clear e1
      go_wp2_with fail
      refine (HS.out _ m hi di HI.out.1.here HI.out.2.1 hhn (by omega)).mono ?_
      rintro _ w1 ⟨rfl, hr1⟩
      have H1 : Hid (Rw w w1 g o (Sort.siftDown lN hi a m di)) := HI.out.1.andThen hr1
      clear hr1
      go_wp2
      go_roundg m
      case measure => omega
      case rel =>
        refine ⟨m, Sort.siftDown lN hi a m di, rfl, by omega, rfl, H1.out, ?_, ?_⟩
        · rw [sift_size _ _ _ (Nat.le_refl _)]
          exact HI.out.2.1
        · rw [← HI.out.2.2]
          rfl
    | zero =>
      have HP : Hid (Rw w wr g o di ∧ di.size = n ∧ Sort.heapSort lN d a b = Sort.heapPop lN a hi di) := ⟨HI.out.1, HI.out.2.1, by rw [HE.out, ← HI.out.2.2]; rfl⟩
      have e1 : ((0 : Nat) : Int) - 1 = -1 := by omega
      simp only [e1]
      clear e1 hkx HI HE
      go_wp2
      go_loopg [10] hi (fun ky s10 wq => ∃ (k : Nat) (dk : Array Nat), s10 = .int .i64 ((k : Int) - 1) ∧ k ≤ hi ∧ ky = k ∧ Hid (Rw w wq g o dk ∧ dk.size = n ∧ Sort.heapPop lN a k dk = Sort.heapPop lN a hi di))
      case atStart => exact ⟨hi, di, rfl, Nat.le_refl _, rfl, HP.out.1, HP.out.2.1, rfl⟩
      case round =>
        obtain ⟨k, dk, rfl, hkh2, hky, HK⟩ := hrel
        cases k with
        | succ m =>
          have e1 : ((m + 1 : Nat) : Int) - 1 = (m : Int) := by omega
          simp only [e1]
          clear e1
          obtain ⟨G, HG, hcw, hfw⟩ := HK.out.1.fam HK.out.2.1
          by_cases hm0 : m = 0
          · subst hm0
            have HSW : Hid (Rw w ((wr.setCell ⟨g, o + a, none⟩ (.int .u64 (G a : Int))).setCell ⟨g, o + a, none⟩ (.int .u64 (G a : Int))).drew g o (Sort.swp dk a a)) := by
              rw [HG.out]
              exact HK.out.1.swap (by rw [HK.out.2.1]; omega) (by rw [HK.out.2.1]; omega) 1
            simp only [Int.ofNat_zero, Int.natCast_zero]
            go_wp2_with fail
            go_region
            all_goals go_wp2_with fail
            refine (HS.out _ 0 0 (Sort.swp dk a a) HSW.out.here (by rw [Sort.size_swp]; exact HK.out.2.1) (by omega) (by omega)).mono ?_
            rintro _ w1 ⟨rfl, hr1⟩
            have H1 : Hid (Rw w w1 g o (Sort.siftDown lN 0 a 0 (Sort.swp dk a a))) := HSW.out.andThen hr1
            clear hr1
            go_wp2
            go_roundg 0
            case measure => omega
            case rel =>
              refine ⟨0, Sort.siftDown lN 0 a 0 (Sort.swp dk a a), rfl, by omega, rfl, H1.out, ?_, ?_⟩
              · rw [sift_size _ _ _ (Nat.le_refl _), Sort.size_swp]
                exact HK.out.2.1
              · rw [← HK.out.2.2]
                rfl
          · have hne : 0 < m := by omega
            have HSW : Hid (Rw w ((wr.setCell ⟨g, o + a, none⟩ (.int .u64 (G (a + m) : Int))).setCell ⟨g, o + (a + m), none⟩ (.int .u64 (G a : Int))).drew g o (Sort.swp dk a (a + m))) := by
              rw [HG.out, HG.out]
              exact HK.out.1.swap (by rw [HK.out.2.1]; omega) (by rw [HK.out.2.1]; omega) 1
            go_wp2_with fail
            go_region
            all_goals go_wp2_with fail
            refine (HS.out _ 0 m (Sort.swp dk a (a + m)) HSW.out.here (by rw [Sort.size_swp]; exact HK.out.2.1) (by omega) (by omega)).mono ?_
            rintro _ w1 ⟨rfl, hr1⟩
            have H1 : Hid (Rw w w1 g o (Sort.siftDown lN m a 0 (Sort.swp dk a (a + m)))) := HSW.out.andThen hr1
            clear hr1
            go_wp2
            go_roundg m
            case measure => omega
            case rel =>
              refine ⟨m, Sort.siftDown lN m a 0 (Sort.swp dk a (a + m)), rfl, by omega, rfl, H1.out, ?_, ?_⟩
              · rw [sift_size _ _ _ (Nat.le_refl _), Sort.size_swp]
                exact HK.out.2.1
              · rw [← HK.out.2.2]
                rfl
        | zero =>
          have e1 : ((0 : Nat) : Int) - 1 = -1 := by omega
          simp only [e1]
          go_wp2
          go_end0
          refine ⟨rfl, ?_⟩
          rw [HP.out.2.2, ← HK.out.2.2]
          exact HK.out.1
end Go.Proofs.YtmlfbihlbiikeaaGreatDoor
namespace Go.Proofs.YtmlfbihlbiikeaaGreatDoor

def s1 (x : Nat) : Nat := if x % 2 = 1 then (x / 2) ^^^ 2197175160 else x / 2
def s1it : Nat → Nat → Nat
  | 0, x => x
  | k + 1, x => s1 (s1it k x)
def nib (x : Nat) : Nat := s1it 4 x
def crcHalf (x : Nat) : Nat := (x / 16) ^^^ nib (x % 16)
def crcByte (s c : Nat) : Nat := crcHalf (crcHalf (s ^^^ c))
def crcGo (s : Nat) (bs : List UInt8) : Nat := bs.foldl (fun s c => crcByte s c.toNat) s
def crc (bs : List UInt8) : Nat := 4294967295 ^^^ crcGo 4294967295 bs

theorem xor32 {a b : Nat} (ha : a < 4294967296) (hb : b < 4294967296) : a ^^^ b < 4294967296 := Nat.xor_lt_two_pow (n := 32) ha hb
theorem s1_lt {x : Nat} (h : x < 4294967296) : s1 x < 4294967296 := by
  unfold s1
  split
  · exact xor32 (by omega) (by omega)
  · omega
theorem s1it_lt : ∀ (k : Nat) {x : Nat}, x < 4294967296 → s1it k x < 4294967296
  | 0, _, h => h
  | k + 1, _, h => s1_lt (s1it_lt k h)
theorem nib_lt (x : Nat) (h : x < 4294967296) : nib x < 4294967296 := s1it_lt 4 h
theorem crcHalf_lt {x : Nat} (h : x < 4294967296) : crcHalf x < 4294967296 := xor32 (by omega) (nib_lt _ (by omega))
theorem crcByte_lt {s c : Nat} (h : s < 4294967296) (hc : c < 256) : crcByte s c < 4294967296 := crcHalf_lt (crcHalf_lt (xor32 h (by omega)))
theorem crcGo_lt : ∀ (bs : List UInt8) {s : Nat}, s < 4294967296 → crcGo s bs < 4294967296
  | [], _, h => h
  | c :: r, _, h => crcGo_lt r (crcByte_lt h (UInt8.toNat_lt c))
theorem crcGo_snoc (s : Nat) (bs : List UInt8) (c : UInt8) : crcGo s (bs ++ [c]) = crcByte (crcGo s bs) c.toNat := by simp [crcGo]
theorem crcGo_take (s : Nat) (bs : List UInt8) (k : Nat) (h : k < bs.length) : crcGo s (bs.take (k + 1)) = crcByte (crcGo s (bs.take k)) (bs.getD k 0).toNat := by
  rw [take_snoc bs k h, crcGo_snoc]
end Go.Proofs.YtmlfbihlbiikeaaGreatDoor
namespace Go.Proofs.YtmlfbihlbiikeaaGreatDoor

end Go.Proofs.YtmlfbihlbiikeaaGreatDoor
namespace Go.Proofs.YtmlfbihlbiikeaaGreatDoor

def m1 (y : Nat) : Nat := if y / 2147483648 = 1 then (y * 2 % 4294967296) ^^^ 517762881 else y * 2 % 4294967296
theorem m1_lt (y : Nat) : m1 y < 4294967296 := by
  unfold m1
  split
  · exact xor32 (Nat.mod_lt _ (by omega)) (by omega)
  · exact Nat.mod_lt _ (by omega)
def maskN (n : Nat) : Nat := (n / 32768 + n % 32768 * 131072 + 2726488792) % 4294967296
theorem maskN_lt (n : Nat) : maskN n < 4294967296 := Nat.mod_lt _ (by omega)
theorem mask_or (n : Nat) (h : n < 4294967296) : n / 32768 ||| n * 131072 % 4294967296 = n / 32768 + n % 32768 * 131072 := by
  have e : n * 131072 % 4294967296 = 2 ^ 17 * (n % 32768) := by omega
  have := Nat.two_pow_add_eq_or_of_lt (i := 17) (b := n / 32768) (show n / 32768 < 2 ^ 17 by omega) (n % 32768)
  rw [e, Nat.or_comm, ← this]
  omega
end Go.Proofs.YtmlfbihlbiikeaaGreatDoor
namespace Go.Proofs.YtmlfbihlbiikeaaGreatDoor

def leftN (p : Nat) : Nat := 128 - p % 128
def padN (p : Nat) : Nat := if leftN p < 7 then leftN p else 0
def roomN (p : Nat) : Nat := if leftN p < 7 then 121 else leftN p - 7
def kindN (first last : Bool) : UInt8 := if first then (if last then 1 else 2) else (if last then 4 else 3)
def sumN (k : UInt8) (b : List UInt8) : Nat := maskN (crc (k :: b))
def pcEnc (k : UInt8) (b : List UInt8) : List UInt8 := fxEnc (sumN k b) 4 ++ (fxEnc b.length 2 ++ k :: b)
theorem pcEnc_length (k : UInt8) (b : List UInt8) : (pcEnc k b).length = 7 + b.length := by
  simp only [pcEnc, List.length_append, fxEnc_length, List.length_cons]
  omega
def nextN (p : Nat) (rest : List UInt8) : Nat := min rest.length (roomN p)
def putF : Nat → Nat → Bool → List UInt8 → List UInt8
  | 0, _, _, _ => []
  | f + 1, p, first, rest =>
    if first = false ∧ rest = [] then []
    else List.replicate (padN p) 0 ++ (pcEnc (kindN first (decide (nextN p rest = rest.length))) (rest.take (nextN p rest)) ++ putF f (p + padN p + 7 + nextN p rest) false (rest.drop (nextN p rest)))
def needN (p : Nat) (first : Bool) (rest : List UInt8) : Nat := 2 * rest.length + (if roomN p = 0 then 1 else 0) + (if first = true then 2 else 0)

theorem leftN_pos (p : Nat) : 1 ≤ leftN p ∧ leftN p ≤ 128 := by unfold leftN; omega
theorem room_pad (p : Nat) : roomN p ≤ 121 ∧ padN p ≤ 6 := by unfold roomN padN leftN; split <;> omega
theorem room_full (p : Nat) : (p + padN p + 7 + roomN p) % 128 = 0 := by
  unfold padN roomN leftN
  split <;> omega
theorem room_start {p : Nat} (h : p % 128 = 0) : roomN p = 121 ∧ padN p = 0 := by unfold roomN padN leftN; rw [h]; decide
theorem next_le (p : Nat) (rest : List UInt8) : nextN p rest ≤ rest.length ∧ nextN p rest ≤ roomN p := by unfold nextN; omega

theorem need_less (p : Nat) (first : Bool) (rest : List UInt8) (h : ¬ (first = false ∧ rest = [])) : needN (p + padN p + 7 + nextN p rest) false (rest.drop (nextN p rest)) < needN p first rest := by
  have hn := next_le p rest
  unfold needN
  rw [List.length_drop]
  by_cases h0 : roomN p = 0
  · have e : nextN p rest = 0 := by omega
    have hf := room_full p
    rw [e]
    rw [h0] at hf
    rw [if_neg (by rw [(room_start hf).1]; omega), if_pos h0]
    simp
    omega
  · rw [if_neg h0]
    have h1 : (if roomN (p + padN p + 7 + nextN p rest) = 0 then 1 else 0) ≤ 1 := by split <;> omega
    cases rest with
    | nil =>
      cases first with
      | false => exact absurd ⟨rfl, rfl⟩ h
      | true =>
        simp only [List.length_nil] at *
        simp
        omega
    | cons c r =>
      have e : 1 ≤ nextN p (c :: r) := by unfold nextN; simp only [List.length_cons]; omega
      simp only [List.length_cons] at *
      simp
      omega

theorem putF_any : ∀ (f g p : Nat) (first : Bool) (rest : List UInt8), needN p first rest < f → needN p first rest < g → putF f p first rest = putF g p first rest
  | 0, _, _, _, _, h, _ => absurd h (Nat.not_lt_zero _)
  | _ + 1, 0, _, _, _, _, h => absurd h (Nat.not_lt_zero _)
  | f + 1, g + 1, p, first, rest, h1, h2 => by
    unfold putF
    by_cases h : first = false ∧ rest = []
    · rw [if_pos h, if_pos h]
    · have hl := need_less p first rest h
      rw [if_neg h, if_neg h, putF_any f g _ false _ (by omega) (by omega)]

def putP (p : Nat) (first : Bool) (rest : List UInt8) : List UInt8 := putF (needN p first rest + 1) p first rest
theorem putP_done (p : Nat) : putP p false [] = [] := by
  unfold putP putF
  rw [if_pos ⟨rfl, rfl⟩]
theorem putP_step (p : Nat) (first : Bool) (rest : List UInt8) (h : ¬ (first = false ∧ rest = [])) :
    putP p first rest = List.replicate (padN p) 0 ++ (pcEnc (kindN first (decide (nextN p rest = rest.length))) (rest.take (nextN p rest)) ++ putP (p + padN p + 7 + nextN p rest) false (rest.drop (nextN p rest))) := by
  have hl := need_less p first rest h
  unfold putP
  rw [putF, if_neg h, putF_any (needN p first rest) (needN (p + padN p + 7 + nextN p rest) false (rest.drop (nextN p rest)) + 1) _ false _ hl (by omega)]
theorem put_ind {C : Nat → Bool → List UInt8 → Prop} (hd : ∀ p, C p false [])
    (hs : ∀ p first rest, ¬ (first = false ∧ rest = []) → C (p + padN p + 7 + nextN p rest) false (rest.drop (nextN p rest)) → C p first rest) :
    ∀ p first rest, C p first rest := by
  have : ∀ (f p : Nat) (first : Bool) (rest : List UInt8), needN p first rest < f → C p first rest := by
    intro f
    induction f with
    | zero => intro p first rest h; exact absurd h (Nat.not_lt_zero _)
    | succ f ih =>
      intro p first rest h
      by_cases h0 : first = false ∧ rest = []
      · obtain ⟨rfl, rfl⟩ := h0
        exact hd p
      · exact hs p first rest h0 (ih _ _ _ (by have := need_less p first rest h0; omega))
  exact fun p first rest => this _ p first rest (Nat.lt_succ_self _)

theorem put_mod : ∀ (p : Nat) (first : Bool) (rest : List UInt8) (q : Nat), p % 128 = q % 128 → putP p first rest = putP q first rest := by
  intro p first rest
  refine put_ind (C := fun p first rest => ∀ q, p % 128 = q % 128 → putP p first rest = putP q first rest) ?_ ?_ p first rest
  · intro p q _
    rw [putP_done, putP_done]
  · intro p first rest h ih q hq
    have e1 : leftN p = leftN q := by unfold leftN; rw [hq]
    have e2 : padN p = padN q := by unfold padN; rw [e1]
    have e3 : nextN p rest = nextN q rest := by unfold nextN roomN; rw [e1]
    rw [putP_step p first rest h, putP_step q first rest h, ih (q + padN q + 7 + nextN q rest) (by rw [e2, e3]; omega), e2, e3]

theorem put_start : ∀ (p : Nat) (first : Bool) (rest : List UInt8), first = false → p % 128 = 0 → (putP p first rest).length ≤ rest.length + 7 * ((rest.length + 120) / 121) := by
  intro p first rest
  refine put_ind (C := fun p first rest => first = false → p % 128 = 0 → (putP p first rest).length ≤ rest.length + 7 * ((rest.length + 120) / 121)) ?_ ?_ p first rest
  · intro p _ _
    rw [putP_done]
    simp
  · intro p first rest h ih hf hp
    have hr := room_start hp
    have hn : nextN p rest = min rest.length 121 := by unfold nextN; rw [hr.1]
    have hne : rest ≠ [] := fun e => h ⟨hf, e⟩
    have hl : 1 ≤ rest.length := List.length_pos_iff.2 hne
    rw [putP_step p first rest h]
    simp only [List.length_append, List.length_replicate, pcEnc_length, List.length_take]
    rw [hr.2]
    by_cases hc : rest.length ≤ 121
    · have e : nextN p rest = rest.length := by omega
      rw [e, List.drop_length, putP_done]
      simp
      omega
    · have e : nextN p rest = 121 := by omega
      have := ih rfl (by rw [e, hr.2]; omega)
      rw [List.length_drop, hr.2] at this
      rw [e] at this ⊢
      omega
theorem put_long : ∀ (p : Nat) (first : Bool) (rest : List UInt8), rest.length + (if first = true then 7 else 0) ≤ (putP p first rest).length := by
  intro p first rest
  refine put_ind (C := fun p first rest => rest.length + (if first = true then 7 else 0) ≤ (putP p first rest).length) ?_ ?_ p first rest
  · intro p
    simp
  · intro p first rest h ih
    have hn := next_le p rest
    rw [putP_step p first rest h]
    simp only [List.length_append, List.length_replicate, pcEnc_length, List.length_take]
    rw [List.length_drop] at ih
    simp at ih
    have : (if first = true then 7 else 0) ≤ 7 := by split <;> omega
    omega
theorem put_short (p : Nat) (rest : List UInt8) : (putP p true rest).length ≤ rest.length + 7 * (rest.length / 121 + 2) + 6 := by
  have hn := next_le p rest
  have hr := room_pad p
  rw [putP_step p true rest (by simp)]
  simp only [List.length_append, List.length_replicate, pcEnc_length, List.length_take]
  by_cases hc : nextN p rest = rest.length
  · rw [hc, List.drop_length, putP_done]
    simp
    omega
  · have e : nextN p rest = roomN p := by unfold nextN at hc ⊢; omega
    have := put_start (p + padN p + 7 + nextN p rest) false (rest.drop (nextN p rest)) rfl (by rw [e]; exact room_full p)
    rw [List.length_drop] at this
    omega

/-! ### Reading -/

structure Pc where
  fault : Nat
  kind : UInt8
  off : Nat
  n : Nat
def Pc.behind (x : Pc) : Nat := x.off + x.n
def Pc.body (b : List UInt8) (x : Pc) : List UInt8 := (b.drop x.off).take x.n
def cntN (b : List UInt8) (p : Nat) : Nat := leNat ((b.drop (p + 4)).take 2)
def pcAt (b : List UInt8) (p : Nat) : Pc :=
  if b.length - p < 7 then ⟨1, 0, 0, 0⟩
  else if leftN p < 7 + cntN b p then ⟨2, 0, 0, 0⟩
  else if b.length - p < 7 + cntN b p then ⟨1, 0, 0, 0⟩
  else if leNat ((b.drop p).take 4) ≠ sumN (b.getD (p + 6) 0) ((b.drop (p + 7)).take (cntN b p)) then (if 7 + cntN b p = b.length - p then ⟨1, 0, 0, 0⟩ else ⟨2, 0, 0, 0⟩)
  else if (b.getD (p + 6) 0).toNat < 1 ∨ 4 < (b.getD (p + 6) 0).toNat then ⟨2, 0, 0, 0⟩
  else ⟨0, b.getD (p + 6) 0, p + 7, cntN b p⟩
def Pc.Ok (len : Nat) (x : Pc) : Prop := (x.fault = 0 ∧ x.off + x.n ≤ len ∧ x.n ≤ 121 ∧ 1 ≤ x.kind.toNat ∧ x.kind.toNat ≤ 4) ∨ (x.fault ≠ 0 ∧ x.fault ≤ 2 ∧ x.kind = 0 ∧ x.off = 0 ∧ x.n = 0)
theorem pcAt_ok (b : List UInt8) (p : Nat) (h : p ≤ b.length) : (pcAt b p).Ok b.length := by
  have hl := leftN_pos p
  unfold pcAt Pc.Ok
  split
  · right; simp
  · split
    · right; simp
    · split
      · right; simp
      · split
        · split
          · right; simp
          · right; simp
        · split
          · right; simp
          · left
            simp only [true_and]
            omega
theorem pcAt_behind (b : List UInt8) (p : Nat) (h : (pcAt b p).fault = 0) : (pcAt b p).off = p + 7 ∧ (pcAt b p).n = cntN b p := by
  unfold pcAt at h ⊢
  split at h
  · simp at h
  · split at h
    · simp at h
    · split at h
      · simp at h
      · split at h
        · split at h <;> simp at h
        · split at h
          · simp at h
          · rename_i h1 h2 h3 h4 h5
            rw [if_neg h1, if_neg h2, if_neg h3, if_neg h4, if_neg h5]
            exact ⟨rfl, rfl⟩
def pcsF : Nat → List UInt8 → Nat → List Pc
  | 0, _, _ => []
  | f + 1, b, p =>
    if b.length ≤ p then []
    else if leftN p < 7 then pcsF f b (p + leftN p)
    else if (pcAt b p).fault ≠ 0 then [pcAt b p]
    else pcAt b p :: pcsF f b (pcAt b p).behind
theorem pcsF_any : ∀ (f g : Nat) (b : List UInt8) (p : Nat), b.length - p ≤ f → b.length - p ≤ g → pcsF f b p = pcsF g b p
  | 0, 0, _, _, _, _ => rfl
  | 0, g + 1, b, p, h, _ => by
    unfold pcsF
    rw [if_pos (by omega)]
  | f + 1, 0, b, p, _, h => by
    unfold pcsF
    rw [if_pos (by omega)]
  | f + 1, g + 1, b, p, h1, h2 => by
    unfold pcsF
    have hl := leftN_pos p
    by_cases h : b.length ≤ p
    · rw [if_pos h, if_pos h]
    · rw [if_neg h, if_neg h]
      by_cases h7 : leftN p < 7
      · rw [if_pos h7, if_pos h7, pcsF_any f g b _ (by omega) (by omega)]
      · rw [if_neg h7, if_neg h7]
        by_cases hf : (pcAt b p).fault ≠ 0
        · rw [if_pos hf, if_pos hf]
        · have hb := pcAt_behind b p (by omega)
          rw [if_neg hf, if_neg hf, pcsF_any f g b _ (by unfold Pc.behind; omega) (by unfold Pc.behind; omega)]
def pcs (b : List UInt8) (p : Nat) : List Pc := pcsF (b.length - p) b p
theorem pcs_end (b : List UInt8) (p : Nat) (h : b.length ≤ p) : pcs b p = [] := by
  unfold pcs
  rw [show b.length - p = 0 by omega, pcsF]
theorem pcs_skip (b : List UInt8) (p : Nat) (h : p < b.length) (h7 : leftN p < 7) : pcs b p = pcs b (p + leftN p) := by
  have hl := leftN_pos p
  unfold pcs
  rw [pcsF_any (b.length - p) (b.length - p + 1) b p (by omega) (by omega), pcsF, if_neg (by omega), if_pos h7]
  exact pcsF_any _ _ b _ (by omega) (by omega)
theorem pcs_bad (b : List UInt8) (p : Nat) (h : p < b.length) (h7 : ¬ leftN p < 7) (hf : (pcAt b p).fault ≠ 0) : pcs b p = [pcAt b p] := by
  unfold pcs
  rw [pcsF_any (b.length - p) (b.length - p + 1) b p (by omega) (by omega), pcsF, if_neg (by omega), if_neg h7, if_pos hf]
theorem pcs_good (b : List UInt8) (p : Nat) (h : p < b.length) (h7 : ¬ leftN p < 7) (hf : (pcAt b p).fault = 0) : pcs b p = pcAt b p :: pcs b (pcAt b p).behind := by
  have hb := pcAt_behind b p hf
  unfold pcs
  rw [pcsF_any (b.length - p) (b.length - p + 1) b p (by omega) (by omega), pcsF, if_neg (by omega), if_neg h7, if_neg (by omega)]
  congr 1
  exact pcsF_any _ _ b _ (by unfold Pc.behind; omega) (by unfold Pc.behind; omega)

def rdL (b : List UInt8) : List Pc → Bool → List UInt8 → List (List UInt8) → Nat → List (List UInt8) × Nat × Nat
  | [], begun, _, rs, size => (rs, size, if begun = true then 1 else 0)
  | x :: l, begun, cur, rs, size =>
    if x.fault ≠ 0 then (rs, size, x.fault)
    else if decide (x.kind.toNat < 3) = begun then (rs, size, 2)
    else if x.kind.toNat = 1 ∨ x.kind.toNat = 4 then rdL b l false [] (rs ++ [cur ++ x.body b]) x.behind
    else rdL b l true (cur ++ x.body b) rs size
def walRead (b : List UInt8) : List (List UInt8) × Nat × Nat := rdL b (pcs b 0) false [] [] 0
end Go.Proofs.YtmlfbihlbiikeaaGreatDoor
