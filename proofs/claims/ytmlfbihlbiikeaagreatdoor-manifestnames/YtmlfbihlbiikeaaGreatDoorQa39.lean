/- The contracts of the library's partitions at rows of uint64. -/
import Derived.Test.YtmlfbihlbiikeaaGreatDoorQa07
import Derived.Deep.DeepCutAuto
import Derived.Deep.CutBlock
namespace Go.Proofs.YtmlfbihlbiikeaaGreatDoor
open Go.RowKit
set_option linter.unusedVariables false
set_option linter.unusedSimpArgs false
theorem up_go {p : Nat → Bool} {d : Array Nat} {j i : Nat} (h : i ≤ j) (hp : p d[i]! = true) : Sort.scanUp p d j i = Sort.scanUp p d j (i + 1) := by
  rw [Sort.scanUp, if_pos (by rw [hp]; simpa using h)]
theorem up_no {p : Nat → Bool} {d : Array Nat} {j i : Nat} (h : ¬ i ≤ j ∨ p d[i]! = false) : Sort.scanUp p d j i = i := by
  rw [Sort.scanUp, if_neg]
  rw [Bool.and_eq_true, decide_eq_true_eq]
  rintro ⟨h1, h2⟩
  rcases h with h | h
  · exact h h1
  · rw [h] at h2
    cases h2
theorem down_go {p : Nat → Bool} {d : Array Nat} {j i : Nat} (hj : 0 < j) (h : i ≤ j) (hp : p d[j]! = true) : Sort.scanDown p d i j = Sort.scanDown p d i (j - 1) := by
  cases j with
  | zero => omega
  | succ k => rw [Sort.scanDown, if_pos (by rw [hp]; simpa using h), Nat.add_sub_cancel]
theorem down_no {p : Nat → Bool} {d : Array Nat} {j i : Nat} (h : ¬ i ≤ j ∨ p d[j]! = false) : Sort.scanDown p d i j = j := by
  cases j with
  | zero => rw [Sort.scanDown]
  | succ k =>
    rw [Sort.scanDown, if_neg]
    rw [Bool.and_eq_true, decide_eq_true_eq]
    rintro ⟨h1, h2⟩
    rcases h with h | h
    · exact h h1
    · rw [h] at h2
      cases h2
set_option maxRecDepth 100000 in
set_option maxHeartbeats 16000000 in
theorem parteq_at (g o c a b pv n : Nat) (d : Array Nat) (w : World) (hR : Rw w w g o d) (hn : d.size = n) (h1 : a ≤ pv) (h2 : pv < b) (hb : b ≤ n) (hm : n < 2305843009213693952) :
    Calls Tryz.prog 249 #[.slice (some ⟨g, o, none⟩) n c, .int .i64 (a : Int), .int .i64 (b : Int), .int .i64 (pv : Int)] w fun e w' => e = .returned (.int .i64 (((Sort.partitionEqual lN d a b pv).1 : Nat) : Int)) ∧ Rw w w' g o (Sort.partitionEqual lN d a b pv).2 := by
  have HR : Hid (Rw w w g o d ∧ d.size = n) := ⟨hR, hn⟩
  clear hR hn
  obtain ⟨d1, HD⟩ : ∃ d1, Hid (d1 = Sort.swp d a pv ∧ d1.size = n) := ⟨_, rfl, by rw [Sort.size_swp]; exact HR.out.2⟩
  obtain ⟨res, hres, HE⟩ : ∃ res, res = Sort.partitionEqual lN d a b pv ∧ Hid (res = Sort.partEqLoop lN a (a + 1) (b - 1) d1) := ⟨_, rfl, by unfold Hid Sort.partitionEqual; rw [HD.out.1]⟩
  rw [← hres]
  clear hres
  have hab : a < b := by omega
  obtain ⟨G, HG, hcw, hfw⟩ := HR.out.1.fam HR.out.2
  go_enter Tryz.func249, Tryz.ntmps249
  go_upto_region 1 with fail
  go_cut [8] (fun s wz => s = .int .i64 0 ∧ Hid (Rw w wz g o d1))
  case first =>
    by_cases hap : a = pv
    · subst hap
      have HSW : Hid (Rw w ((w.setCell ⟨g, o + a, none⟩ (.int .u64 (G a : Int))).setCell ⟨g, o + a, none⟩ (.int .u64 (G a : Int))).drew g o d1) := by
        rw [HG.out, HD.out.1]
        exact HR.out.1.swap (by rw [HR.out.2]; omega) (by rw [HR.out.2]; omega) 1
      go_region
      all_goals go_wp2_with fail
      go_meet
      exact ⟨rfl, HSW.out⟩
    · have hlt : a < pv := by omega
      have HSW : Hid (Rw w ((w.setCell ⟨g, o + a, none⟩ (.int .u64 (G pv : Int))).setCell ⟨g, o + pv, none⟩ (.int .u64 (G a : Int))).drew g o d1) := by
        rw [HG.out, HG.out, HD.out.1]
        exact HR.out.1.swap (by rw [HR.out.2]; omega) (by rw [HR.out.2]; omega) 1
      go_region
      all_goals go_wp2_with fail
      go_meet
      exact ⟨rfl, HSW.out⟩
  case rest =>
    obtain ⟨rfl, H1⟩ := hcut
    clear hcw hfw HG
    go_wp2_with fail
    go_loopg [9, 10] (b - a) (fun kx s9 s10 wr => ∃ (i j : Nat) (di : Array Nat), s9 = .int .i64 (i : Int) ∧ s10 = .int .i64 (j : Int) ∧ a < i ∧ i ≤ b ∧ a ≤ j ∧ j < b ∧ j + 1 - i ≤ kx ∧ Hid (Rw w wr g o di ∧ di.size = n ∧ res = Sort.partEqLoop lN a i j di))
    case atStart => exact ⟨a + 1, b - 1, d1, by go_num, by congr 1; omega, by omega, by omega, by omega, by omega, by omega, H1.out, HD.out.2, HE.out⟩
    case round =>
      obtain ⟨i, j, di, rfl, rfl, hai, hib, haj, hjb, hkx, HI⟩ := hrel
      go_upto_block 2 with fail
      go_cut [9] (fun s wz => ∃ i2 : Nat, s = .int .i64 (i2 : Int) ∧ i ≤ i2 ∧ i2 ≤ b ∧ Hid (Rw w wz g o di ∧ Sort.scanUp (fun x => !lN di[a]! x) di j (i) = i2 ∧ (j < i2 ∨ (fun x => !lN di[a]! x) di[i2]! = false)))
      case first =>
        go_wp2_with fail
        go_loopg [9] (j + 1 - (i)) (fun ky s wq => ∃ i1 : Nat, s = .int .i64 (i1 : Int) ∧ i ≤ i1 ∧ i1 ≤ b ∧ ky = j + 1 - i1 ∧ Hid (Rw w wq g o di ∧ Sort.scanUp (fun x => !lN di[a]! x) di j i1 = Sort.scanUp (fun x => !lN di[a]! x) di j (i)))
        case atStart => exact ⟨i, by first | rfl | go_num, Nat.le_refl _, hib, rfl, HI.out.1, rfl⟩
        case round =>
          obtain ⟨i1, rfl, hii, hi1b, hky, HV⟩ := hrel
          obtain ⟨G, HG, hcw, hfw⟩ := HV.out.1.fam HI.out.2.1
          by_cases hle : i1 ≤ j
          · cases hl : lN (G a) (G i1)
            all_goals have HL : Hid (lN (G a) (G i1) = _) := hl
            all_goals clear hl
            all_goals go_wp2_with fail
            all_goals go_quiet (first | (go_at_call 248; refine Calls.quiet_of_same (less_any _ _ _)))
            all_goals simp only [HL.out]
            · go_wp2
              go_roundg (j + 1 - (i1 + 1))
              case measure => omega
              case rel => exact ⟨i1 + 1, by go_num, by omega, by omega, rfl, HV.out.1.drewN nq, by rw [← HV.out.2]; exact (up_go hle (by rw [← HG.out, ← HG.out, HL.out] <;> rfl)).symm⟩
            · go_wp2_with fail
              go_meet
              exact ⟨i1, rfl, by omega, by omega, HV.out.1.drewN nq, by rw [← HV.out.2]; exact up_no (.inr (by rw [← HG.out, ← HG.out, HL.out] <;> rfl)), .inr (by rw [← HG.out, ← HG.out, HL.out] <;> rfl)⟩
          · go_wp2_with fail
            go_quiet (first | (go_at_call 248; refine Calls.quiet_of_same (less_any _ _ _)))
            go_wp2_with fail
            go_meet
            exact ⟨i1, rfl, by omega, by omega, HV.out.1.drewN nq, by rw [← HV.out.2]; exact up_no (.inl hle), .inl (by omega)⟩
      case rest =>
        obtain ⟨i2, rfl, hi2l, hi2b, HU⟩ := hcut
        go_upto_block 4 with fail
        go_cut [10] (fun s wz => ∃ j2 : Nat, s = .int .i64 (j2 : Int) ∧ a ≤ j2 ∧ j2 ≤ j ∧ Hid (Rw w wz g o di ∧ Sort.scanDown (fun x => lN di[a]! x) di i2 (j) = j2 ∧ (j2 < i2 ∨ (fun x => lN di[a]! x) di[j2]! = false)))
        case first =>
          go_wp2_with fail
          go_loopg [10] (j + 1 - i2) (fun ky s wq => ∃ j1 : Nat, s = .int .i64 (j1 : Int) ∧ a ≤ j1 ∧ j1 ≤ j ∧ ky = j1 + 1 - i2 ∧ Hid (Rw w wq g o di ∧ Sort.scanDown (fun x => lN di[a]! x) di i2 j1 = Sort.scanDown (fun x => lN di[a]! x) di i2 (j)))
          case atStart => exact ⟨j, by first | rfl | (congr 1; omega), haj, Nat.le_refl _, rfl, HU.out.1, rfl⟩
          case round =>
            obtain ⟨j1, rfl, haj, hjj, hky, HV⟩ := hrel
            obtain ⟨G, HG, hcw, hfw⟩ := HV.out.1.fam HI.out.2.1
            by_cases hle : i2 ≤ j1
            · cases hl : lN (G a) (G j1)
              all_goals have HL : Hid (lN (G a) (G j1) = _) := hl
              all_goals clear hl
              all_goals go_wp2_with fail
              all_goals go_quiet (first | (go_at_call 248; refine Calls.quiet_of_same (less_any _ _ _)))
              all_goals simp only [HL.out]
              · go_wp2_with fail
                go_meet
                exact ⟨j1, rfl, by omega, by omega, HV.out.1.drewN nq, by rw [← HV.out.2]; exact down_no (.inr (by rw [← HG.out, ← HG.out, HL.out] <;> rfl)), .inr (by rw [← HG.out, ← HG.out, HL.out] <;> rfl)⟩
              · go_wp2
                go_roundg (j1 - 1 + 1 - i2)
                case measure => omega
                case rel => exact ⟨j1 - 1, by congr 1; omega, by omega, by omega, rfl, HV.out.1.drewN nq, by rw [← HV.out.2]; exact (down_go (by omega) hle (by rw [← HG.out, ← HG.out, HL.out] <;> rfl)).symm⟩
            · go_wp2_with fail
              go_quiet (first | (go_at_call 248; refine Calls.quiet_of_same (less_any _ _ _)))
              go_wp2_with fail
              go_meet
              exact ⟨j1, rfl, by omega, by omega, HV.out.1.drewN nq, by rw [← HV.out.2]; exact down_no (.inl hle), .inl (by omega)⟩
        case rest =>
          obtain ⟨j2, rfl, hj2a, hj2j, HV⟩ := hcut
          have HQ : Hid (res = if i2 > j2 then (i2, di) else Sort.partEqLoop lN a (i2 + 1) (j2 - 1) (Sort.swp di i2 j2)) := by
            unfold Hid
            rw [HI.out.2.2, Sort.partEqLoop_eq, HU.out.2.1, HV.out.2.1]
          by_cases hgt : i2 > j2
          · go_wp2
            go_ret
            rw [HQ.out, if_pos hgt]
            exact ⟨ret1 rfl, HV.out.1⟩
          · have hne : i2 < j2 := by
              rcases Nat.lt_or_ge i2 j2 with h | h
              · exact h
              · have e : i2 = j2 := by omega
                subst e
                have h1 := HU.out.2.2
                have h2 := HV.out.2.2
                exfalso
                rcases h1 with h1 | h1
                · omega
                · rcases h2 with h2 | h2
                  · omega
                  · simp only at h1 h2
                    rw [h2] at h1
                    cases h1
            obtain ⟨G, HG, hcw, hfw⟩ := HV.out.1.fam HI.out.2.1
            go_wp2_with fail
            go_region
            all_goals go_wp2
            go_roundg (j2 - 1 + 1 - (i2 + 1))
            case measure => omega
            case rel =>
              refine ⟨i2 + 1, j2 - 1, Sort.swp di i2 j2, by go_num, by congr 1; omega, by omega, by omega, by omega, by omega, by omega, ?_, by rw [Sort.size_swp]; exact HI.out.2.1, ?_⟩
              · rw [HG.out, HG.out]
                exact HV.out.1.swap (by rw [HI.out.2.1]; omega) (by rw [HI.out.2.1]; omega) 1
              · rw [HQ.out, if_neg hgt]
set_option maxRecDepth 100000 in
set_option maxHeartbeats 32000000 in
theorem part_at (g o c a b pv n : Nat) (d : Array Nat) (w : World) (hR : Rw w w g o d) (hn : d.size = n) (h1 : a ≤ pv) (h2 : pv < b) (hb : b ≤ n) (hm : n < 2305843009213693952) :
    Calls Tryz.prog 250 #[.slice (some ⟨g, o, none⟩) n c, .int .i64 (a : Int), .int .i64 (b : Int), .int .i64 (pv : Int)] w fun e w' => e = .returned (.tuple #[.int .i64 (((Sort.partition lN d a b pv).1 : Nat) : Int), .bool (Sort.partition lN d a b pv).2.1]) ∧ Rw w w' g o (Sort.partition lN d a b pv).2.2 := by
  have HR : Hid (Rw w w g o d ∧ d.size = n) := ⟨hR, hn⟩
  clear hR hn
  obtain ⟨d1, HD⟩ : ∃ d1, Hid (d1 = Sort.swp d a pv ∧ d1.size = n) := ⟨_, rfl, by rw [Sort.size_swp]; exact HR.out.2⟩
  obtain ⟨res, hres, HE⟩ : ∃ res, res = Sort.partition lN d a b pv ∧ Hid (∀ i j, Sort.scanUp (fun x => lN x d1[a]!) d1 (b - 1) (a + 1) = i → Sort.scanDown (fun x => !lN x d1[a]!) d1 i (b - 1) = j → res = if i > j then (j, true, Sort.swp d1 j a) else ((Sort.partLoop lN a (i + 1) (j - 1) (Sort.swp d1 i j)).1, false, Sort.swp (Sort.partLoop lN a (i + 1) (j - 1) (Sort.swp d1 i j)).2 (Sort.partLoop lN a (i + 1) (j - 1) (Sort.swp d1 i j)).1 a)) := ⟨_, rfl, by
    intro i j hi hj
    unfold Sort.partition
    simp only [← HD.out.1]
    rw [hi, hj]⟩
  rw [← hres]
  clear hres
  have hab : a < b := by omega
  obtain ⟨bb, hbb⟩ : ∃ bb, bb = b - 1 := ⟨_, rfl⟩
  have hbI : (b : Int) - 1 = (bb : Int) := by omega
  have habb : a ≤ bb := by omega
  rw [← hbb] at HE
  have hb1 : bb < b := by omega
  have hb2 : b ≤ bb + 1 := by omega
  clear hbb
  obtain ⟨G, HG, hcw, hfw⟩ := HR.out.1.fam HR.out.2
  go_enter Tryz.func250, Tryz.ntmps250
  go_upto_region 1 with fail
  go_cut [8] (fun s wz => s = .int .i64 0 ∧ Hid (Rw w wz g o d1))
  case first =>
    by_cases hap : a = pv
    · subst hap
      have HSW : Hid (Rw w ((w.setCell ⟨g, o + a, none⟩ (.int .u64 (G a : Int))).setCell ⟨g, o + a, none⟩ (.int .u64 (G a : Int))).drew g o d1) := by
        rw [HG.out, HD.out.1]
        exact HR.out.1.swap (by rw [HR.out.2]; omega) (by rw [HR.out.2]; omega) 1
      go_region
      all_goals go_wp2_with fail
      go_meet
      exact ⟨rfl, HSW.out⟩
    · have hlt : a < pv := by omega
      have HSW : Hid (Rw w ((w.setCell ⟨g, o + a, none⟩ (.int .u64 (G pv : Int))).setCell ⟨g, o + pv, none⟩ (.int .u64 (G a : Int))).drew g o d1) := by
        rw [HG.out, HG.out, HD.out.1]
        exact HR.out.1.swap (by rw [HR.out.2]; omega) (by rw [HR.out.2]; omega) 1
      go_region
      all_goals go_wp2_with fail
      go_meet
      exact ⟨rfl, HSW.out⟩
  case rest =>
    obtain ⟨rfl, H1⟩ := hcut
    have HB : Hid (Rw w wc g o d1 ∧ d1.size = n ∧ True) := ⟨H1.out, HD.out.2, trivial⟩
    clear hcw hfw HG
    go_upto_block 0 with fail
    try simp only [hbI]
    clear hbI
    go_cut [10] (fun s wz => ∃ i2 : Nat, s = .int .i64 (i2 : Int) ∧ a + 1 ≤ i2 ∧ i2 ≤ b ∧ Hid (Rw w wz g o d1 ∧ Sort.scanUp (fun x => lN x d1[a]!) d1 bb (a + 1) = i2 ∧ (bb < i2 ∨ (fun x => lN x d1[a]!) d1[i2]! = false)))
    case first =>
      go_wp2_with fail
      go_loopg [10] (bb + 1 - (a + 1)) (fun ky s wq => ∃ i1 : Nat, s = .int .i64 (i1 : Int) ∧ a + 1 ≤ i1 ∧ i1 ≤ b ∧ ky = bb + 1 - i1 ∧ Hid (Rw w wq g o d1 ∧ Sort.scanUp (fun x => lN x d1[a]!) d1 bb i1 = Sort.scanUp (fun x => lN x d1[a]!) d1 bb (a + 1)))
      case atStart => exact ⟨a + 1, by first | rfl | go_num, Nat.le_refl _, by omega, rfl, HB.out.1, rfl⟩
      case round =>
        obtain ⟨i1, rfl, hii, hi1b, hky, HV⟩ := hrel
        obtain ⟨G, HG, hcw, hfw⟩ := HV.out.1.fam HB.out.2.1
        by_cases hle : i1 ≤ bb
        · cases hl : lN (G i1) (G a)
          all_goals have HL : Hid (lN (G i1) (G a) = _) := hl
          all_goals clear hl
          all_goals go_wp2_with fail
          all_goals go_quiet (first | (go_at_call 248; refine Calls.quiet_of_same (less_any _ _ _)))
          all_goals simp only [HL.out]
          · go_wp2_with fail
            go_meet
            exact ⟨i1, rfl, by omega, by omega, HV.out.1.drewN nq, by rw [← HV.out.2]; exact up_no (.inr (by rw [← HG.out, ← HG.out, HL.out] <;> rfl)), .inr (by rw [← HG.out, ← HG.out, HL.out] <;> rfl)⟩
          · go_wp2
            go_roundg (bb + 1 - (i1 + 1))
            case measure => omega
            case rel => exact ⟨i1 + 1, by go_num, by omega, by omega, rfl, HV.out.1.drewN nq, by rw [← HV.out.2]; exact (up_go hle (by rw [← HG.out, ← HG.out, HL.out] <;> rfl)).symm⟩
        · go_wp2_with fail
          go_quiet (first | (go_at_call 248; refine Calls.quiet_of_same (less_any _ _ _)))
          go_wp2_with fail
          go_meet
          exact ⟨i1, rfl, by omega, by omega, HV.out.1.drewN nq, by rw [← HV.out.2]; exact up_no (.inl hle), .inl (by omega)⟩
    case rest =>
      obtain ⟨i2, rfl, hi2l, hi2b, HU⟩ := hcut
      go_upto_block 2 with fail
      go_cut [11] (fun s wz => ∃ j2 : Nat, s = .int .i64 (j2 : Int) ∧ a ≤ j2 ∧ j2 ≤ bb ∧ Hid (Rw w wz g o d1 ∧ Sort.scanDown (fun x => !lN x d1[a]!) d1 i2 (bb) = j2 ∧ (j2 < i2 ∨ (fun x => !lN x d1[a]!) d1[j2]! = false)))
      case first =>
        go_wp2_with fail
        go_loopg [11] (bb + 1 - i2) (fun ky s wq => ∃ j1 : Nat, s = .int .i64 (j1 : Int) ∧ a ≤ j1 ∧ j1 ≤ bb ∧ ky = j1 + 1 - i2 ∧ Hid (Rw w wq g o d1 ∧ Sort.scanDown (fun x => !lN x d1[a]!) d1 i2 j1 = Sort.scanDown (fun x => !lN x d1[a]!) d1 i2 (bb)))
        case atStart => exact ⟨bb, by first | rfl | (congr 1; omega), habb, Nat.le_refl _, rfl, HU.out.1, rfl⟩
        case round =>
          obtain ⟨j1, rfl, haj, hjj, hky, HV⟩ := hrel
          obtain ⟨G, HG, hcw, hfw⟩ := HV.out.1.fam HB.out.2.1
          by_cases hle : i2 ≤ j1
          · cases hl : lN (G j1) (G a)
            all_goals have HL : Hid (lN (G j1) (G a) = _) := hl
            all_goals clear hl
            all_goals go_wp2_with fail
            all_goals go_quiet (first | (go_at_call 248; refine Calls.quiet_of_same (less_any _ _ _)))
            all_goals simp only [HL.out]
            · go_wp2
              go_roundg (j1 - 1 + 1 - i2)
              case measure => omega
              case rel => exact ⟨j1 - 1, by congr 1; omega, by omega, by omega, rfl, HV.out.1.drewN nq, by rw [← HV.out.2]; exact (down_go (by omega) hle (by rw [← HG.out, ← HG.out, HL.out] <;> rfl)).symm⟩
            · go_wp2_with fail
              go_meet
              exact ⟨j1, rfl, by omega, by omega, HV.out.1.drewN nq, by rw [← HV.out.2]; exact down_no (.inr (by rw [← HG.out, ← HG.out, HL.out] <;> rfl)), .inr (by rw [← HG.out, ← HG.out, HL.out] <;> rfl)⟩
          · go_wp2_with fail
            go_quiet (first | (go_at_call 248; refine Calls.quiet_of_same (less_any _ _ _)))
            go_wp2_with fail
            go_meet
            exact ⟨j1, rfl, by omega, by omega, HV.out.1.drewN nq, by rw [← HV.out.2]; exact down_no (.inl hle), .inl (by omega)⟩
      case rest =>
        obtain ⟨j2, rfl, hj2a, hj2j, HV⟩ := hcut
        have HQ := HE.out i2 j2 HU.out.2.1 HV.out.2.1
        have HQ2 : Hid (res = _) := HQ
        clear HQ HE
        by_cases hgt : i2 > j2
        · have HQ3 : Hid (res = (j2, true, Sort.swp d1 j2 a)) := by unfold Hid; rw [HQ2.out, if_pos hgt]
          obtain ⟨G, HG, hcw, hfw⟩ := HV.out.1.fam HD.out.2
          go_wp2_with fail
          by_cases hja : j2 = a
          · subst hja
            have HSW : Hid (Rw w ((wc.setCell ⟨g, o + j2, none⟩ (.int .u64 (G j2 : Int))).setCell ⟨g, o + j2, none⟩ (.int .u64 (G j2 : Int))).drew g o (Sort.swp d1 j2 j2)) := by
              rw [HG.out]
              exact HV.out.1.swap (by rw [HD.out.2]; omega) (by rw [HD.out.2]; omega) 1
            go_region
            all_goals go_wp2_with fail
            go_ret2
            rw [HQ3.out]
            exact ⟨ret2 rfl rfl, HSW.out⟩
          · have hja2 : a < j2 := by omega
            have HSW : Hid (Rw w ((wc.setCell ⟨g, o + j2, none⟩ (.int .u64 (G a : Int))).setCell ⟨g, o + a, none⟩ (.int .u64 (G j2 : Int))).drew g o (Sort.swp d1 j2 a)) := by
              rw [HG.out, HG.out]
              exact HV.out.1.swap (by rw [HD.out.2]; omega) (by rw [HD.out.2]; omega) 1
            go_region
            all_goals go_wp2_with fail
            go_ret2
            rw [HQ3.out]
            exact ⟨ret2 rfl rfl, HSW.out⟩
        · have HQ3 : Hid (res = ((Sort.partLoop lN a (i2 + 1) (j2 - 1) (Sort.swp d1 i2 j2)).1, false, Sort.swp (Sort.partLoop lN a (i2 + 1) (j2 - 1) (Sort.swp d1 i2 j2)).2 (Sort.partLoop lN a (i2 + 1) (j2 - 1) (Sort.swp d1 i2 j2)).1 a)) := by unfold Hid; rw [HQ2.out, if_neg hgt]
          clear HQ2
          have hne : i2 < j2 := by
            rcases Nat.lt_or_ge i2 j2 with h | h
            · exact h
            · have e : i2 = j2 := by omega
              subst e
              have h1 := HU.out.2.2
              have h2 := HV.out.2.2
              exfalso
              rcases h1 with h1 | h1
              · omega
              · rcases h2 with h2 | h2
                · omega
                · simp only at h1 h2
                  rw [h1] at h2
                  cases h2
          obtain ⟨G, HG, hcw, hfw⟩ := HV.out.1.fam HD.out.2
          obtain ⟨d2, HD2⟩ : ∃ d2, Hid (d2 = Sort.swp d1 i2 j2 ∧ d2.size = n) := ⟨_, rfl, by rw [Sort.size_swp]; exact HD.out.2⟩
          rw [← HD2.out.1] at HQ3
          have HSW : Hid (Rw w ((wc.setCell ⟨g, o + i2, none⟩ (.int .u64 (G j2 : Int))).setCell ⟨g, o + j2, none⟩ (.int .u64 (G i2 : Int))).drew g o d2) := by
            rw [HG.out, HG.out, HD2.out.1]
            exact HV.out.1.swap (by rw [HD.out.2]; omega) (by rw [HD.out.2]; omega) 1
          go_wp2_with fail
          go_region
          all_goals go_wp2_with fail
          clear hcw hfw HG HU HV
          go_loopg [10, 11] (b - a) (fun kx s9 s10 wr => ∃ (i j : Nat) (di : Array Nat), s9 = .int .i64 (i : Int) ∧ s10 = .int .i64 (j : Int) ∧ a < i ∧ i ≤ b ∧ a ≤ j ∧ j < b ∧ j + 1 - i ≤ kx ∧ Hid (Rw w wr g o di ∧ di.size = n ∧ Sort.partLoop lN a (i2 + 1) (j2 - 1) d2 = Sort.partLoop lN a i j di))
          case atStart => exact ⟨i2 + 1, j2 - 1, d2, by go_num, by congr 1; omega, by omega, by omega, by omega, by omega, by omega, HSW.out, HD2.out.2, rfl⟩
          case round =>
            obtain ⟨i, j, di, rfl, rfl, hai, hib, haj, hjb, hkx, HI⟩ := hrel
            have HQ4 : Hid (res = ((Sort.partLoop lN a i j di).1, false, Sort.swp (Sort.partLoop lN a i j di).2 (Sort.partLoop lN a i j di).1 a)) := by
              unfold Hid
              rw [HQ3.out, HI.out.2.2]
            have HI3 : Hid (∀ i3 j3 dd, Sort.partLoop lN a i j di = Sort.partLoop lN a i3 j3 dd → Sort.partLoop lN a (i2 + 1) (j2 - 1) d2 = Sort.partLoop lN a i3 j3 dd) := fun i3 j3 dd e => HI.out.2.2.trans e
            clear HSW
            clear hi2l hi2b hj2a hj2j hgt hne
            go_upto_block 6 with fail
            go_cut [10] (fun s wz => ∃ i2 : Nat, s = .int .i64 (i2 : Int) ∧ i ≤ i2 ∧ i2 ≤ b ∧ Hid (Rw w wz g o di ∧ Sort.scanUp (fun x => lN x di[a]!) di j (i) = i2 ∧ (j < i2 ∨ (fun x => lN x di[a]!) di[i2]! = false)))
            case first =>
              go_wp2_with fail
              go_loopg [10] (j + 1 - (i)) (fun ky s wq => ∃ i1 : Nat, s = .int .i64 (i1 : Int) ∧ i ≤ i1 ∧ i1 ≤ b ∧ ky = j + 1 - i1 ∧ Hid (Rw w wq g o di ∧ Sort.scanUp (fun x => lN x di[a]!) di j i1 = Sort.scanUp (fun x => lN x di[a]!) di j (i)))
              case atStart => exact ⟨i, by first | rfl | go_num, Nat.le_refl _, hib, rfl, HI.out.1, rfl⟩
              case round =>
                obtain ⟨i1, rfl, hii, hi1b, hky, HV⟩ := hrel
                obtain ⟨G, HG, hcw, hfw⟩ := HV.out.1.fam HI.out.2.1
                by_cases hle : i1 ≤ j
                · cases hl : lN (G i1) (G a)
                  all_goals have HL : Hid (lN (G i1) (G a) = _) := hl
                  all_goals clear hl
                  all_goals go_wp2_with fail
                  all_goals go_quiet (first | (go_at_call 248; refine Calls.quiet_of_same (less_any _ _ _)))
                  all_goals simp only [HL.out]
                  · go_wp2_with fail
                    go_meet
                    exact ⟨i1, rfl, by omega, by omega, HV.out.1.drewN nq, by rw [← HV.out.2]; exact up_no (.inr (by rw [← HG.out, ← HG.out, HL.out] <;> rfl)), .inr (by rw [← HG.out, ← HG.out, HL.out] <;> rfl)⟩
                  · go_wp2
                    go_roundg (j + 1 - (i1 + 1))
                    case measure => omega
                    case rel => exact ⟨i1 + 1, by go_num, by omega, by omega, rfl, HV.out.1.drewN nq, by rw [← HV.out.2]; exact (up_go hle (by rw [← HG.out, ← HG.out, HL.out] <;> rfl)).symm⟩
                · go_wp2_with fail
                  go_quiet (first | (go_at_call 248; refine Calls.quiet_of_same (less_any _ _ _)))
                  go_wp2_with fail
                  go_meet
                  exact ⟨i1, rfl, by omega, by omega, HV.out.1.drewN nq, by rw [← HV.out.2]; exact up_no (.inl hle), .inl (by omega)⟩
            case rest =>
              obtain ⟨i4, rfl, hi4l, hi4b, HU⟩ := hcut
              go_upto_block 8 with fail
              go_cut [11] (fun s wz => ∃ j2 : Nat, s = .int .i64 (j2 : Int) ∧ a ≤ j2 ∧ j2 ≤ j ∧ Hid (Rw w wz g o di ∧ Sort.scanDown (fun x => !lN x di[a]!) di i4 (j) = j2 ∧ (j2 < i4 ∨ (fun x => !lN x di[a]!) di[j2]! = false)))
              case first =>
                go_wp2_with fail
                go_loopg [11] (j + 1 - i4) (fun ky s wq => ∃ j1 : Nat, s = .int .i64 (j1 : Int) ∧ a ≤ j1 ∧ j1 ≤ j ∧ ky = j1 + 1 - i4 ∧ Hid (Rw w wq g o di ∧ Sort.scanDown (fun x => !lN x di[a]!) di i4 j1 = Sort.scanDown (fun x => !lN x di[a]!) di i4 (j)))
                case atStart => exact ⟨j, by first | rfl | (congr 1; omega), haj, Nat.le_refl _, rfl, HU.out.1, rfl⟩
                case round =>
                  obtain ⟨j1, rfl, haj, hjj, hky, HV⟩ := hrel
                  obtain ⟨G, HG, hcw, hfw⟩ := HV.out.1.fam HI.out.2.1
                  by_cases hle : i4 ≤ j1
                  · cases hl : lN (G j1) (G a)
                    all_goals have HL : Hid (lN (G j1) (G a) = _) := hl
                    all_goals clear hl
                    all_goals go_wp2_with fail
                    all_goals go_quiet (first | (go_at_call 248; refine Calls.quiet_of_same (less_any _ _ _)))
                    all_goals simp only [HL.out]
                    · go_wp2
                      go_roundg (j1 - 1 + 1 - i4)
                      case measure => omega
                      case rel => exact ⟨j1 - 1, by congr 1; omega, by omega, by omega, rfl, HV.out.1.drewN nq, by rw [← HV.out.2]; exact (down_go (by omega) hle (by rw [← HG.out, ← HG.out, HL.out] <;> rfl)).symm⟩
                    · go_wp2_with fail
                      go_meet
                      exact ⟨j1, rfl, by omega, by omega, HV.out.1.drewN nq, by rw [← HV.out.2]; exact down_no (.inr (by rw [← HG.out, ← HG.out, HL.out] <;> rfl)), .inr (by rw [← HG.out, ← HG.out, HL.out] <;> rfl)⟩
                  · go_wp2_with fail
                    go_quiet (first | (go_at_call 248; refine Calls.quiet_of_same (less_any _ _ _)))
                    go_wp2_with fail
                    go_meet
                    exact ⟨j1, rfl, by omega, by omega, HV.out.1.drewN nq, by rw [← HV.out.2]; exact down_no (.inl hle), .inl (by omega)⟩
              case rest =>
                obtain ⟨j4, rfl, hj4a, hj4j, HV⟩ := hcut
                have HP : Hid (Sort.partLoop lN a i j di = if i4 > j4 then (j4, di) else Sort.partLoop lN a (i4 + 1) (j4 - 1) (Sort.swp di i4 j4)) := by
                  unfold Hid
                  rw [Sort.partLoop_eq, HU.out.2.1, HV.out.2.1]
                by_cases hgt : i4 > j4
                · have HQ5 : Hid (res = (j4, false, Sort.swp di j4 a)) := by
                    have h1 := HP.out
                    rw [if_pos hgt] at h1
                    unfold Hid
                    rw [HQ4.out, h1]
                  obtain ⟨G, HG, hcw, hfw⟩ := HV.out.1.fam HI.out.2.1
                  go_wp2_with fail
                  by_cases hja : j4 = a
                  · subst hja
                    have HSW : Hid (Rw w ((wc.setCell ⟨g, o + j4, none⟩ (.int .u64 (G j4 : Int))).setCell ⟨g, o + j4, none⟩ (.int .u64 (G j4 : Int))).drew g o (Sort.swp di j4 j4)) := by
                      rw [HG.out]
                      exact HV.out.1.swap (by rw [HI.out.2.1]; omega) (by rw [HI.out.2.1]; omega) 1
                    go_region
                    all_goals go_wp2_with fail
                    go_ret2
                    rw [HQ5.out]
                    exact ⟨ret2 rfl rfl, HSW.out⟩
                  · have hja2 : a < j4 := by omega
                    have HSW : Hid (Rw w ((wc.setCell ⟨g, o + j4, none⟩ (.int .u64 (G a : Int))).setCell ⟨g, o + a, none⟩ (.int .u64 (G j4 : Int))).drew g o (Sort.swp di j4 a)) := by
                      rw [HG.out, HG.out]
                      exact HV.out.1.swap (by rw [HI.out.2.1]; omega) (by rw [HI.out.2.1]; omega) 1
                    go_region
                    all_goals go_wp2_with fail
                    go_ret2
                    rw [HQ5.out]
                    exact ⟨ret2 rfl rfl, HSW.out⟩
                · have hne : i4 < j4 := by
                    rcases Nat.lt_or_ge i4 j4 with h | h
                    · exact h
                    · have e : i4 = j4 := by omega
                      subst e
                      have h1 := HU.out.2.2
                      have h2 := HV.out.2.2
                      exfalso
                      rcases h1 with h1 | h1
                      · omega
                      · rcases h2 with h2 | h2
                        · omega
                        · simp only at h1 h2
                          rw [h1] at h2
                          cases h2
                  obtain ⟨G, HG, hcw, hfw⟩ := HV.out.1.fam HI.out.2.1
                  go_wp2_with fail
                  go_region
                  all_goals go_wp2
                  go_roundg (j4 - 1 + 1 - (i4 + 1))
                  case measure => omega
                  case rel =>
                    refine ⟨i4 + 1, j4 - 1, Sort.swp di i4 j4, by go_num, by congr 1; omega, by omega, by omega, by omega, by omega, by omega, ?_, by rw [Sort.size_swp]; exact HI.out.2.1, HI3.out _ _ _ ?_⟩
                    · rw [HG.out, HG.out]
                      exact HV.out.1.swap (by rw [HI.out.2.1]; omega) (by rw [HI.out.2.1]; omega) 1
                    · rw [HP.out, if_neg hgt]
end Go.Proofs.YtmlfbihlbiikeaaGreatDoor
