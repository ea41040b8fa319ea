/- The walk of ViewTurns, by what is asked of view's own. -/
import Derived.Test.YtjoamhcehpjepaaQa06
namespace Go.Proofs.Ytjoamhcehpjepaa
open Go.RowKit
set_option linter.unusedVariables false
set_option linter.unusedSimpArgs false
set_option maxRecDepth 100000 in
set_option maxHeartbeats 3000000 in
theorem viewTurns_of {D : VwRel} (F : VwOk D) (a : Option Addr) (n c : Nat) (L0 : List (List KV)) (s : Nat) (w : World) (h : LsAt w a n c L0) (hwf : WfLs L0) (hs : s < 18446744073709551616) :
    Calls Try.prog 6 #[.slice a n c, .int .u64 (s : Int)] w fun e w' => e = .returned (.bool true) ∧ Below w.heap.size w w' := by
  have HWF : Hid (WfLs L0) := hwf
  clear hwf
  have H0 : Hid (LsAt w a n c L0) := h
  clear h
  go_enter Try.func6, Try.ntmps6
  go_wp2_with fail
  refine (awake17 F w).mono ?_
  rintro _ w1 ⟨rfl, hb1⟩
  have H1 : Hid (Below w.heap.size w w1) := hb1
  clear hb1
  go_wp2_with fail
  refine (few_any a n c L0 w1 (H0.out.below H1.out)).mono ?_
  rintro _ w2 ⟨a2, c2, rfl, hl2, hb2⟩
  have HF : Hid (FewV (fewL L0)) := fewL_ok HWF.out
  have HA8 : Hid ((allL (fewL L0)).length ≤ 8000) := fewL_all L0
  have HE2L : Hid (∀ i, lenL (fewL L0) i ≤ 200) := fewL_each L0
  generalize fewL L0 = L at hl2 HF HA8 HE2L ⊢
  have H2 : Hid (Below w.heap.size w w2 ∧ LsAt w2 a2 L.length c2 L) := ⟨H1.out.trans (hb2.mono H1.out.size), hl2⟩
  clear hl2 hb2 H0 H1
  have HL40 : L.length ≤ 1000 := HF.out.1
  go_wp2_with fail
  refine (F.new a2 L.length c2 L s w2 H2.out.2 HF.out hs).mono ?_
  rintro _ w3 ⟨hb3, hcase⟩
  rcases hcase with ⟨hr, p, R3, rfl, hd3, hR3⟩ | ⟨_, rfl⟩
  · have S3 : Hid (VwS D w2 w2.heap.size w3 R3 p (seenL s (allL L)) none (fun _ => False)) := VwS.made hd3 hb3 hb3.size hR3
    have HR : Hid (RiseL L) := hr
    clear hd3 hb3 hR3 hr
    go_wp2_with fail
    go_loopw [8, 9] (fun s6 s7 wr => ∃ (i : Nat), i ≤ L.length ∧ s7 = .int .i64 (i : Int) ∧ s6 = .int .i64 ((sumV (lenL L) i : Nat) : Int) ∧ wr = w3) (fun _ s7 _ => L.length - (intOf s7).toNat)
    case atStart => exact ⟨0, Nat.zero_le _, rfl, rfl, rfl⟩
    case round =>
      obtain ⟨i, hil, rfl, rfl, rfl⟩ := hrel
      have hsm : sumV (lenL L) i ≤ 8000 := by
        have h1 := sum_mono (lenL L) hil
        have h2 := HA8.out
        rw [all_sum] at h1
        omega
      by_cases hi : i < L.length
      · have hiI : (i : Int) < (L.length : Int) := by omega
        obtain ⟨bL, oL, aL, cL, hxL, hcL0, _⟩ := H2.out.2.lens hi
        have hcl := hcL0 _ S3.out.low
        have hll := HE2L.out i
        have HSS : Hid (((sumV (lenL L) (i + 1) : Nat) : Int) = ((sumV (lenL L) i : Nat) : Int) + (lenL L i : Int)) := by unfold Hid; rw [sum_step]; omega
        clear hcL0
        generalize lenL L i = ll at *
        go_wp2
        go_roundw
        case rel => exact ⟨i + 1, by omega, by go_num, by rw [HSS.out], by first | rfl | trivial⟩
        case measure => simp only [intOf]; omega
      · obtain rfl : i = L.length := by omega
        have hall := all_sum L
        rw [hall]
        rw [hall] at hsm
        clear hall
        have hiI : ¬ (L.length : Int) < (L.length : Int) := by omega
        have HIR : Hid ((seenL s (allL L)).Pairwise fun a b => uc a.1 b.1 < 0) := rise_seen (all_sortU HR.out)
        have HIL : Hid ((seenL s (allL L)).length ≤ (allL L).length) := seen_le _ _
        generalize seenL s (allL L) = I at S3 HIR HIL
        generalize (allL L).length = MO at hsm HIL ⊢
        go_wp2_with fail
        refine (all17 F S3.out HIR.out MO HIL.out (by omega)).mono ?_
        rintro _ w5 ⟨a5, c5, R5, rfl, hal⟩
        have L5 : Hid (Lv D w2 w2.heap.size w5 p I none wr.heap.size a5 c5 R5) := Lv.of hal
        have hI8 : I.length ≤ 8000 := by have := HIL.out; omega
        clear hal S3
        generalize wr.heap.size = BB at L5
        obtain ⟨N, hN⟩ : ∃ N, N = I.length := ⟨_, rfl⟩
        have HN : Hid (N = I.length) := hN
        rw [← hN]
        rw [← hN] at hI8
        clear hN
        go_wp2_with fail
        refine (F.last L5.out.vw.it).mono ?_
        rintro _ w6 ⟨rfl, hp6⟩
        obtain ⟨R6, h6⟩ := L5.out.step hp6
        have L6 : Hid (Lv D w2 w2.heap.size w6 p I (back7 N) BB a5 c5 R6) := by rw [HN.out]; exact h6
        clear hp6 h6 L5
        go_wp2_with fail
        go_loopw [12] (fun s12 wr => ∃ (j : Nat), j ≤ N ∧ s12 = .int .i64 ((j : Int) - 1) ∧ Hid (∃ R, Lv D w2 w2.heap.size wr p I (back7 j) BB a5 c5 R)) (fun s12 _ => (intOf s12 + 1).toNat)
        case atStart => exact ⟨N, Nat.le_refl _, by first | rfl | go_num, R6, L6.out⟩
        case round =>
          clear L6
          obtain ⟨j, hjN, rfl, HJ⟩ := hrel
          obtain ⟨R7, h7⟩ := HJ.out
          have L7 : Hid (Lv D w2 w2.heap.size wr p I (back7 j) BB a5 c5 R7) := h7
          clear h7 HJ
          cases j with
          | zero =>
            have hA : Calls Try.prog 13 #[at_ p] wr fun x w' => x = .returned (.tuple #[.agg #[.string ⟨#[]⟩, .string ⟨#[]⟩], .bool false]) ∧ ∃ R', Lv D w2 w2.heap.size w' p I (back7 0) BB a5 c5 R' := L7.out.at' F (e := i0) (b := false) rfl
            go_wp2_with fail
            refine hA.mono ?_
            rintro _ w8 ⟨rfl, R8, h8⟩
            have HB : Hid (Below w.heap.size w w8) := H2.out.1.trans (h8.vw.low.mono H2.out.1.size)
            clear h8 hA L7
            go_wp2
            go_ret
            exact ⟨ret1 rfl, HB.out.alloc HB.out.size _⟩
          | succ j =>
            have HJL : Hid (j < I.length) := by have := HN.out; unfold Hid; omega
            have hA : Calls Try.prog 13 #[at_ p] wr fun x w' => x = .returned (.tuple #[.agg #[.string (I[j]'HJL.out).1, .string (I[j]'HJL.out).2], .bool true]) ∧ ∃ R', Lv D w2 w2.heap.size w' p I (back7 (j + 1)) BB a5 c5 R' := L7.out.at' F (told7_back HJL.out)
            have HPV : Hid (go7 I 5 ⟨#[]⟩ (back7 (j + 1)) = back7 j) := prev7_back _
            have hneq := run_neq_it (I[j]'HJL.out) (I[j]'HJL.out)
            rw [show eqI (I[j]'HJL.out) (I[j]'HJL.out) = true from decide_eq_true rfl, show (!true) = false from rfl] at hneq
            unfold itA at hneq
            have HOC : Hid (∀ W9 : World, OwnI W9 BB a5 I.length c5 I → ∃ g, a5 = some ⟨g, 0, none⟩ ∧ W9.cell? ⟨g, j * 2, none⟩ = some (.string (I[j]'HJL.out).1) ∧ W9.cell? ⟨g, j * 2 + 1, none⟩ = some (.string (I[j]'HJL.out).2)) := fun W9 h9 => by
              have hjl := HJL.out
              obtain ⟨g, hg, hc⟩ := h9.cellsAt (by omega)
              exact ⟨g, hg, hc j HJL.out⟩
            generalize (I[j]'HJL.out) = e at hA hneq HOC
            have hj1 : (((j + 1 : Nat) : Int) - 1) = (j : Int) := by omega
            rw [hj1]
            have hjI : (0 : Int) ≤ (j : Int) := by omega
            go_wp2_with fail
            refine hA.mono ?_
            rintro _ w8 ⟨rfl, R8, h8⟩
            have L8 : Hid (Lv D w2 w2.heap.size (w8.alloc (.cells #[.string e.1, .string e.2] TItm)) p I (back7 (j + 1)) BB a5 c5 R8 ∧ Box (w8.alloc (.cells #[.string e.1, .string e.2] TItm)) w8.heap.size TItm #[.string e.1, .string e.2]) := ⟨h8.below F ((Below.refl _ _).alloc (Nat.le_refl _) _), Box.new _ _ _⟩
            clear h8 hA L7
            go_upto_region 21 with fail
            generalize w8.heap.size = q8 at L8 ⊢
            generalize w8.alloc (.cells #[.string e.1, .string e.2] TItm) = W9 at L8 ⊢
            have b0 := L8.out.2.cell 0
            have b1 := L8.out.2.cell 1
            simp only [List.getElem?_toArray, List.getElem?_cons_succ, List.getElem?_cons_zero] at b0 b1
            obtain ⟨g, rfl, y0, y1⟩ := HOC.out W9 L8.out.1.own
            have hx := fun W => idxI W (b := g) (n := N) (c := c5) (i := j) (by omega)
            have L9 : Hid (∀ m, Lv D w2 w2.heap.size (W9.drewN m) p I (back7 (j + 1)) BB (some ⟨g, 0, none⟩) c5 R8) := fun m => L8.out.1.below F (Below.drewM (Below.refl _ _) _)
            clear L8 HOC
            go_quiet (fail)
            go_wp2_with fail
            refine (F.prev (L9.out nq).vw.it).mono ?_
            rintro _ w10 ⟨rfl, hp10⟩
            obtain ⟨R10, h10⟩ := (L9.out nq).step hp10
            rw [HPV.out] at h10
            have L10 : Hid (∃ R, Lv D w2 w2.heap.size w10 p I (back7 j) BB (some ⟨g, 0, none⟩) c5 R) := ⟨R10, h10⟩
            clear hp10 h10 L9
            go_wp2
            go_roundw
            case rel => exact ⟨j, by omega, by first | rfl | go_num, L10.out⟩
            case measure => simp only [intOf]; omega
  · have HB : Hid (Below w.heap.size w w3) := H2.out.1.trans (hb3.mono H2.out.1.size)
    clear hb3
    go_wp2
    go_ret
    exact ⟨ret1 rfl, HB.out⟩
end Go.Proofs.Ytjoamhcehpjepaa
