/- The contracts of the library's pdqsort and of slices.Sort at rows of uint64: a permutation, rising. -/
import Derived.Test.YtcdfgcjecmpjhaaU14Ins
import Derived.Test.YtcdfgcjecmpjhaaU14Heap
import Derived.Test.YtcdfgcjecmpjhaaU14Part
import Derived.Test.YtcdfgcjecmpjhaaU14Piv
import Derived.Test.YtcdfgcjecmpjhaaU14Brk
import Derived.Test.YtcdfgcjecmpjhaaU14Pins
namespace Go.Proofs.Ytcdfgcjecmpjhaa
open Go.RowKit
set_option linter.unusedVariables false
set_option linter.unusedSimpArgs false
/-- What stands in memory in the midst of a sort: whatever sorts the part that is left, sorts the whole. -/
structure Pq (w : World) (g o n a b : Nat) (d : Array Nat) (a' b' : Nat) (wr : World) (x : Array Nat) : Prop where
  rw : Rw w wr g o x
  size : x.size = n
  below : Sort.Below lN a' b' x
  cont : ∀ y, Sort.PermIn a' b' x y → Sort.SortedIn lN a' b' y → Sort.PermIn a b d y ∧ Sort.SortedIn lN a b y
theorem Pq.perm {w wr wr' : World} {g o n a b a' b' : Nat} {d x y : Array Nat} (h : Pq w g o n a b d a' b' wr x) (hb : b' ≤ n) (hr : Rw wr wr' g o y) (hp : Sort.PermIn a' b' x y) : Pq w g o n a b d a' b' wr' y :=
  ⟨h.rw.andThen hr, hp.1.trans h.size, h.below.perm (by rw [h.size]; exact hb) hp, fun z hz hs => h.cont z (Sort.permIn_trans _ _ _ _ _ hp hz) hs⟩
theorem Pq.same {w wr wr' : World} {g o n a b a' b' : Nat} {d x : Array Nat} (h : Pq w g o n a b d a' b' wr x) (hr : Rw wr wr' g o x) : Pq w g o n a b d a' b' wr' x :=
  ⟨h.rw.andThen hr, h.size, h.below, h.cont⟩
theorem Pq.drewN {w wr : World} {g o n a b a' b' : Nat} {d x : Array Nat} (h : Pq w g o n a b d a' b' wr x) (q : Nat) : Pq w g o n a b d a' b' (wr.drewN q) x :=
  ⟨h.rw.drewN q, h.size, h.below, h.cont⟩
theorem Pq.lt {w wr : World} {g o n a b a' b' : Nat} {d x : Array Nat} (h : Pq w g o n a b d a' b' wr x) (hg : g < w.heap.size) : g < wr.heap.size := Nat.lt_of_lt_of_le hg h.rw.chg.size
set_option maxRecDepth 100000 in
set_option maxHeartbeats 64000000 in
theorem pdq_at : ∀ (m : Nat) (g o c a b lim n : Nat) (d : Array Nat) (w : World), Rw w w g o d → g < w.heap.size → d.size = n → a ≤ b → b ≤ n → n < 65536 → lim ≤ 64 → b - a < m → Sort.Below lN a b d →
    Calls Try.prog 50 #[.slice (some ⟨g, o, none⟩) n c, .int .i64 (a : Int), .int .i64 (b : Int), .int .i64 (lim : Int)] w fun e w' => e = .returned (.tuple #[]) ∧ ∃ d', Rw w w' g o d' ∧ Sort.PermIn a b d d' ∧ Sort.SortedIn lN a b d' := by
  intro m
  induction m with
  | zero =>
    intro g o c a b lim n d w hR hg hn hab hb hm hlm hba hB
    omega
  | succ m ih =>
    intro g o c a b lim n d w hR hg hn hab hb hm hlm hba hB
    have IH : Hid (∀ (a' b' lim' : Nat) (x : Array Nat) (W : World), Rw W W g o x → g < W.heap.size → x.size = n → a' ≤ b' → b' ≤ n → lim' ≤ 64 → b' - a' < m → Sort.Below lN a' b' x → Calls Try.prog 50 #[.slice (some ⟨g, o, none⟩) n c, .int .i64 (a' : Int), .int .i64 (b' : Int), .int .i64 (lim' : Int)] W fun e w' => e = .returned (.tuple #[]) ∧ ∃ d', Rw W w' g o d' ∧ Sort.PermIn a' b' x d' ∧ Sort.SortedIn lN a' b' d') := fun a' b' lim' x W h1 h2 h3 h4 h5 h6 h7 h8 => ih g o c a' b' lim' n x W h1 h2 h3 h4 h5 hm h6 h7 h8
    have HP : Hid (Pq w g o n a b d a b w d ∧ g < w.heap.size) := ⟨⟨hR, hn, hB, fun y hy hs => ⟨hy, hs⟩⟩, hg⟩
    clear ih hR hg hn hB
    go_enter Try.func50, Try.ntmps50
    go_wp2_with fail
    go_loopg [1, 2, 3, 8, 9] (b - a) (fun kx s1 s2 s3 s8 s9 wr => ∃ (a' b' l' : Nat) (p8 p9 : Bool) (x : Array Nat), s1 = .int .i64 (a' : Int) ∧ s2 = .int .i64 (b' : Int) ∧ s3 = .int .i64 (l' : Int) ∧ s8 = .bool p8 ∧ s9 = .bool p9 ∧ a ≤ a' ∧ a' ≤ b' ∧ b' ≤ b ∧ l' ≤ 64 ∧ b' - a' ≤ kx ∧ Hid (Pq w g o n a b d a' b' wr x))
    case atStart => exact ⟨a, b, lim, true, true, d, rfl, rfl, rfl, rfl, rfl, Nat.le_refl _, hab, Nat.le_refl _, hlm, Nat.le_refl _, HP.out.1⟩
    case round =>
      obtain ⟨a', b', l', p8, p9, x, rfl, rfl, rfl, rfl, rfl, haa, hab', hbb, hl64, hkx, HX⟩ := hrel
      have hbn : b' ≤ n := by omega
      by_cases h12 : b' - a' ≤ 12
      · have h12I : (b' : Int) - (a' : Int) ≤ 12 := by omega
        have hi := ins_at g o c a' b' n x wr HX.out.rw.here HX.out.size hab' hbn (by omega)
        go_wp2_with fail
        refine hi.mono ?_
        rintro _ w1 ⟨rfl, hr1⟩
        go_wp2_with fail
        (try simp only [Exit.inBlock, Exit.then])
        refine bodyPost_ret (results_none rfl _ _ _) rfl ?_
        obtain ⟨hp, hs⟩ := Sort.insertionSort_holds (lt := lN) swoN x a' b' hab' (by rw [HX.out.size]; exact hbn)
        exact ⟨rfl, _, HX.out.rw.andThen hr1, (HX.out.cont _ hp hs).1, (HX.out.cont _ hp hs).2⟩
      · have h12I : ¬ (b' : Int) - (a' : Int) ≤ 12 := by omega
        by_cases hl0 : l' = 0
        · subst hl0
          have hi := heap_at g o c a' b' n x wr HX.out.rw.here HX.out.size (by omega) hbn (by omega)
          go_wp2_with fail
          refine hi.mono ?_
          rintro _ w1 ⟨rfl, hr1⟩
          go_wp2_with fail
          (try simp only [Exit.inBlock, Exit.then])
          refine bodyPost_ret (results_none rfl _ _ _) rfl ?_
          obtain ⟨hp, hs⟩ := Sort.heapSort_holds (lt := lN) swoN x a' b' hab' (by rw [HX.out.size]; exact hbn)
          exact ⟨rfl, _, HX.out.rw.andThen hr1, (HX.out.cont _ hp hs).1, (HX.out.cont _ hp hs).2⟩
        · have hl0b : ((l' : Int) == 0) = false := beq_eq_false_iff_ne.2 (by omega)
          go_upto_if 35 with fail
          go_cut [3] (fun s wz => ∃ (l2 : Nat) (x1 : Array Nat), s = .int .i64 (l2 : Int) ∧ l2 ≤ 64 ∧ Hid (Pq w g o n a b d a' b' wz x1))
          case first =>
            cases p8 with
            | true =>
              go_wp2_with fail
              go_meet
              exact ⟨l', x, rfl, hl64, HX.out⟩
            | false =>
              have hi := brk_at g o c a' b' n x wr HX.out.rw.here (HX.out.lt HP.out.2) HX.out.size (by omega) hbn hm
              go_wp2_with fail
              refine hi.mono ?_
              rintro _ w1 ⟨rfl, x1, hr1, hp1⟩
              have H1 : Hid (Pq w g o n a b d a' b' w1 x1) := HX.out.perm hbn hr1 hp1
              clear hr1 hp1 hi
              go_wp2_with fail
              go_meet
              exact ⟨l' - 1, x1, by congr 1; omega, by omega, H1.out⟩
          case rest =>
            obtain ⟨l2, x1, rfl, hl2, H1⟩ := hcut
            clear HX
            have hi := pivot_at g o c a' b' n x1 wc H1.out.rw.here (H1.out.lt HP.out.2) H1.out.size (by omega) hbn hm
            go_wp2_with fail
            refine hi.mono ?_
            rintro _ w2 ⟨pv, ht, rfl, hpa, hpb, hr2⟩
            have H2 : Hid (Pq w g o n a b d a' b' w2 x1) := H1.out.same hr2
            clear hr2 hi
            go_upto_if 50 with fail
            go_cut [11, 12] (fun s11 s12 wz => ∃ (p2 h2 : Nat) (x2 : Array Nat), s11 = .int .i64 (p2 : Int) ∧ s12 = .int .i64 (h2 : Int) ∧ a' ≤ p2 ∧ p2 < b' ∧ Hid (Pq w g o n a b d a' b' wz x2))
            case first =>
              by_cases hh : ht = 2
              · subst hh
                have hi := rev_at g o c a' b' n x1 w2 H2.out.rw.here H2.out.size (by omega) hbn (by omega)
                go_wp2_with fail
                refine hi.mono ?_
                rintro _ w3 ⟨rfl, hr3⟩
                have H3 : Hid (Pq w g o n a b d a' b' w3 (Sort.reverseRange x1 a' b')) := H2.out.perm hbn hr3 (Sort.reverseRange_holds x1 a' b' hab' (by rw [H2.out.size]; exact hbn))
                clear hr3 hi
                go_wp2_with fail
                go_meet
                exact ⟨(b' - 1) - (pv - a'), 1, _, by congr 1; omega, rfl, by omega, by omega, H3.out⟩
              · have hhb : ((ht : Int) == 2) = false := beq_eq_false_iff_ne.2 (by omega)
                go_wp2_with fail
                go_meet
                exact ⟨pv, ht, x1, rfl, rfl, hpa, hpb, H2.out⟩
            case rest =>
              obtain ⟨p2, h2, x2, rfl, rfl, hp2a, hp2b, H3⟩ := hcut
              clear H1 H2
              go_upto_region 15 with fail
              go_cut [68] (fun s wz => ∃ q : Bool, s = .bool q ∧ wz = wc)
              case first =>
                by_cases hh1 : h2 = 1
                · subst hh1
                  cases p8 <;> cases p9
                  all_goals go_wp2_with fail
                  all_goals go_meet
                  all_goals exact ⟨_, rfl, rfl⟩
                · have hhb : ((h2 : Int) == 1) = false := beq_eq_false_iff_ne.2 (by omega)
                  cases p8 <;> cases p9
                  all_goals go_wp2_with fail
                  all_goals go_meet
                  all_goals exact ⟨_, rfl, rfl⟩
              case rest =>
                obtain ⟨qb, rfl, rfl⟩ := hcut
                go_upto_if 68 with fail
                go_cut [11] (fun s11 wz => ∃ (x3 : Array Nat), s11 = .int .i64 (p2 : Int) ∧ Hid (Pq w g o n a b d a' b' wz x3))
                case first =>
                  cases qb with
                  | false =>
                    go_wp2_with fail
                    go_meet
                    exact ⟨x2, rfl, H3.out⟩
                  | true =>
                    have hi := pins_at g o c a' b' n x2 wc H3.out.rw.here H3.out.size (by omega) hbn (by omega)
                    have HPI : Hid (Sort.PermIn a' b' x2 (Sort.partialInsertionSort lN x2 a' b').1 ∧ ((Sort.partialInsertionSort lN x2 a' b').2 = true → Sort.SortedIn lN a' b' (Sort.partialInsertionSort lN x2 a' b').1)) := Sort.partialInsertionSort_holds (lt := lN) swoN x2 a' b' (by omega) (by rw [H3.out.size]; exact hbn) H3.out.below
                    generalize Sort.partialInsertionSort lN x2 a' b' = pr at hi HPI
                    obtain ⟨x3, q3⟩ := pr
                    simp only at hi HPI
                    go_wp2_with fail
                    refine hi.mono ?_
                    rintro _ w4 ⟨rfl, hr4⟩
                    have H4 : Hid (Pq w g o n a b d a' b' w4 x3) := H3.out.perm hbn hr4 HPI.out.1
                    clear hr4 hi
                    cases q3 with
                    | true =>
                      go_wp2_with fail
                      (try simp only [Exit.inBlock, Exit.then])
                      refine bodyPost_ret (results_none rfl _ _ _) rfl ?_
                      have hc := H4.out.cont x3 (Sort.permIn_refl _ _ _) (HPI.out.2 (by first | rfl | trivial))
                      exact ⟨rfl, x3, H4.out.rw, hc.1, hc.2⟩
                    | false =>
                      go_wp2_with fail
                      go_meet
                      exact ⟨x3, rfl, H4.out⟩
                case rest =>
                  obtain ⟨x3, rfl, H4⟩ := hcut
                  clear H3
                  obtain ⟨G, HG, hcw, hfw⟩ := H4.out.rw.fam H4.out.size
                  go_upto_region 17 with fail
                  go_cut [87] (fun s wz => s = .bool (decide (0 < a' ∧ lN (G (a' - 1)) (G p2) = false)) ∧ Hid (Pq w g o n a b d a' b' wz x3))
                  case first =>
                    by_cases ha0 : 0 < a'
                    · have ha0I : (0 : Int) < (a' : Int) := by omega
                      cases hl : lN (G (a' - 1)) (G p2)
                      all_goals have HL : Hid (lN (G (a' - 1)) (G p2) = _) := hl
                      all_goals clear hl
                      all_goals go_quiet (first | (go_at_call 64; refine Calls.quiet_of_same (less_any _ _ _)))
                      all_goals simp only [HL.out]
                      all_goals go_wp2_with fail
                      all_goals go_meet
                      all_goals exact ⟨by rw [HL.out]; simp [ha0], H4.out.drewN nq⟩
                    · have ha0I : decide ((0 : Int) < (a' : Int)) = false := decide_eq_false (by omega)
                      go_quiet (first | (go_at_call 64; refine Calls.quiet_of_same (less_any _ _ _)))
                      go_wp2_with fail
                      go_meet
                      exact ⟨by simp [ha0], H4.out.drewN nq⟩
                  case rest =>
                    obtain ⟨rfl, H5⟩ := hcut
                    clear hcw hfw
                    by_cases hq : 0 < a' ∧ lN (G (a' - 1)) (G p2) = false
                    · have HQ : Hid (0 < a' ∧ lN x3[a' - 1]! x3[p2]! = false) := by rw [← HG.out, ← HG.out]; exact hq
                      rw [decide_eq_true hq]
                      have hi := parteq_at g o c a' b' p2 n x3 wc H5.out.rw.here H5.out.size hp2a hp2b hbn (by omega)
                      have HE : Hid (∀ mid x4, Sort.partitionEqual lN x3 a' b' p2 = (mid, x4) → _) := fun mid x4 hx => Sort.round_eq swoN (Sort.partitionEqual_holds lN) HQ.out.1 hp2a hp2b (by rw [H5.out.size]; exact hbn) H5.out.below HQ.out.2 hx
                      generalize hpr : Sort.partitionEqual lN x3 a' b' p2 = pr at hi HE
                      obtain ⟨mid, x4⟩ := pr
                      simp only at hi
                      have HE2 := HE.out mid x4 rfl
                      obtain ⟨hm1, hm2, hsz, hbl, hct⟩ := HE2
                      have HE3 : Hid (x4.size = x3.size ∧ Sort.Below lN mid b' x4 ∧ ∀ R, Sort.PermIn mid b' x4 R → Sort.SortedIn lN mid b' R → Sort.PermIn a' b' x3 R ∧ Sort.SortedIn lN a' b' R) := ⟨hsz, hbl, hct⟩
                      clear hsz hbl hct HE hq hpr
                      go_wp2_with fail
                      refine hi.mono ?_
                      rintro _ w5 ⟨rfl, hr5⟩
                      have H6 : Hid (Pq w g o n a b d mid b' w5 x4) := ⟨H5.out.rw.andThen hr5, HE3.out.1.trans H5.out.size, HE3.out.2.1, fun y hy hs => by
                        have := HE3.out.2.2 y hy hs
                        exact H5.out.cont y this.1 this.2⟩
                      clear hr5 hi
                      go_wp2
                      go_roundg (b' - mid)
                      case measure => omega
                      case rel => exact ⟨mid, b', l2, p8, p9, x4, rfl, rfl, rfl, rfl, rfl, by omega, by omega, by omega, hl2, Nat.le_refl _, H6.out⟩
                    · rw [decide_eq_false hq]
                      have hi := part_at g o c a' b' p2 n x3 wc H5.out.rw.here H5.out.size hp2a hp2b hbn (by omega)
                      have HE : Hid (∀ mid q4 x4, Sort.partition lN x3 a' b' p2 = (mid, q4, x4) → _) := fun mid q4 x4 hx => Sort.round_part swoN (Sort.partition_holds lN) hp2a hp2b (by rw [H5.out.size]; exact hbn) H5.out.below hx
                      generalize hpr : Sort.partition lN x3 a' b' p2 = pr at hi HE
                      obtain ⟨mid, q4, x4⟩ := pr
                      simp only at hi
                      have HE2 := HE.out mid q4 x4 rfl
                      obtain ⟨hm1, hm2, hsz, hbl, hbr, hcl, hcr⟩ := HE2
                      have HE3 : Hid (x4.size = x3.size ∧ Sort.Below lN a' mid x4 ∧ Sort.Below lN (mid + 1) b' x4 ∧ (∀ L, Sort.PermIn a' mid x4 L → Sort.SortedIn lN a' mid L → Sort.Below lN (mid + 1) b' L ∧ ∀ R, Sort.PermIn (mid + 1) b' L R → Sort.SortedIn lN (mid + 1) b' R → Sort.PermIn a' b' x3 R ∧ Sort.SortedIn lN a' b' R) ∧ (∀ L, Sort.PermIn (mid + 1) b' x4 L → Sort.SortedIn lN (mid + 1) b' L → Sort.Below lN a' mid L ∧ ∀ R, Sort.PermIn a' mid L R → Sort.SortedIn lN a' mid R → Sort.PermIn a' b' x3 R ∧ Sort.SortedIn lN a' b' R)) := ⟨hsz, hbl, hbr, hcl, hcr⟩
                      clear hsz hbl hbr hcl hcr HE hq hpr
                      go_wp2_with fail
                      refine hi.mono ?_
                      rintro _ w5 ⟨rfl, hr5⟩
                      have H6 : Hid (Rw w w5 g o x4 ∧ x4.size = n ∧ g < w5.heap.size) := ⟨H5.out.rw.andThen hr5, HE3.out.1.trans H5.out.size, Nat.lt_of_lt_of_le (H5.out.lt HP.out.2) hr5.chg.size⟩
                      clear hr5 hi
                      by_cases hlr : mid - a' < b' - mid
                      · have hlrI : (mid : Int) - (a' : Int) < (b' : Int) - (mid : Int) := by omega
                        go_wp2_with fail
                        refine (IH.out a' mid l2 x4 w5 H6.out.1.here H6.out.2.2 H6.out.2.1 hm1 (by omega) hl2 (by omega) HE3.out.2.1).mono ?_
                        rintro _ w6 ⟨rfl, x5, hr6, hp6, hs6⟩
                        have H7 : Hid (Pq w g o n a b d (mid + 1) b' w6 x5) := by
                          obtain ⟨hb5, hc5⟩ := HE3.out.2.2.2.1 x5 hp6 hs6
                          refine ⟨H6.out.1.andThen hr6, hp6.1.trans H6.out.2.1, hb5, fun y hy hs => ?_⟩
                          have := hc5 y hy hs
                          exact H5.out.cont y this.1 this.2
                        clear hr6 hp6 hs6
                        go_wp2
                        all_goals go_roundg (b' - (mid + 1))
                        all_goals first | omega | exact ⟨mid + 1, b', l2, _, q4, x5, by go_num, rfl, rfl, rfl, rfl, by omega, by omega, by omega, hl2, Nat.le_refl _, H7.out⟩
                      · have hlrI : ¬ (mid : Int) - (a' : Int) < (b' : Int) - (mid : Int) := by omega
                        have hi := IH.out (mid + 1) b' l2 x4 w5 H6.out.1.here H6.out.2.2 H6.out.2.1 (by omega) (by omega) hl2 (by omega) HE3.out.2.2.1
                        rw [show ((mid + 1 : Nat) : Int) = (mid : Int) + 1 by omega] at hi
                        go_wp2_with fail
                        refine hi.mono ?_
                        rintro _ w6 ⟨rfl, x5, hr6, hp6, hs6⟩
                        have H7 : Hid (Pq w g o n a b d a' mid w6 x5) := by
                          obtain ⟨hb5, hc5⟩ := HE3.out.2.2.2.2 x5 hp6 hs6
                          refine ⟨H6.out.1.andThen hr6, hp6.1.trans H6.out.2.1, hb5, fun y hy hs => ?_⟩
                          have := hc5 y hy hs
                          exact H5.out.cont y this.1 this.2
                        clear hr6 hp6 hs6 hi
                        go_wp2
                        all_goals go_roundg (mid - a')
                        all_goals first | omega | exact ⟨a', mid, l2, _, q4, x5, rfl, rfl, rfl, rfl, rfl, by omega, by omega, by omega, hl2, Nat.le_refl _, H7.out⟩
set_option maxRecDepth 100000 in
set_option maxHeartbeats 4000000 in
theorem sort_at (g o c n : Nat) (d : Array Nat) (w : World) (hR : Rw w w g o d) (hg : g < w.heap.size) (hn : d.size = n) (hm : n < 65536) :
    Calls Try.prog 39 #[.slice (some ⟨g, o, none⟩) n c] w fun e w' => e = .returned (.tuple #[]) ∧ ∃ d', Rw w w' g o d' ∧ Sort.PermIn 0 n d d' ∧ Sort.SortedIn lN 0 n d' := by
  have hl : Lib.bitLen n ≤ 64 := Lib.bitLen_le n 64 (by omega) (by omega)
  have HL : Hid (∀ W, Calls Try.prog 51 #[.int .u64 (n : Int)] W fun e w' => e = .returned (.int .i64 ((Lib.bitLen n : Nat) : Int)) ∧ W = w') := fun W => len_at n hm W
  have HP : Hid (∀ lim : Nat, lim ≤ 64 → Calls Try.prog 50 #[.slice (some ⟨g, o, none⟩) n c, .int .i64 0, .int .i64 (n : Int), .int .i64 (lim : Int)] w fun e w' => e = .returned (.tuple #[]) ∧ ∃ d', Rw w w' g o d' ∧ Sort.PermIn 0 n d d' ∧ Sort.SortedIn lN 0 n d') := fun lim hl => pdq_at (n + 1) g o c 0 n lim n d w hR hg hn (Nat.zero_le _) (Nat.le_refl _) hm hl (by omega) (.inl rfl)
  generalize Lib.bitLen n = L at HL hl
  clear hR hg hn
  go_enter Try.func39, Try.ntmps39
  go_wp2_with fail
  refine (HL.out _).mono ?_
  rintro _ w1 ⟨rfl, rfl⟩
  go_wp2_with fail
  refine (HP.out L hl).mono ?_
  rintro _ w2 ⟨rfl, hd⟩
  have H2 : Hid _ := hd
  clear hd HL HP
  go_wp2
  go_end0
  exact ⟨rfl, H2.out⟩
end Go.Proofs.Ytcdfgcjecmpjhaa
