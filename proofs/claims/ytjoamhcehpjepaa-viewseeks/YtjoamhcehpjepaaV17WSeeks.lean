/- The walk of ViewSeeks, by what is asked of view's own. -/
import Derived.Test.YtjoamhcehpjepaaQa06
namespace Go.Proofs.Ytjoamhcehpjepaa
open Go.RowKit
set_option linter.unusedVariables false
set_option linter.unusedSimpArgs false
/-- Where what is sought stands. -/
theorem seek_stop {I : List It17} {u : ByteArray} {i : Nat} (hi : i ≤ I.length) (h1 : ∀ j (hj : j < I.length), j < i → uc I[j].1 u < 0) (h2 : ∀ hi : i < I.length, ¬ uc I[i].1 u < 0) (o : Option Nat) : go7 I 3 u o = norm7 I i := by
  show norm7 I (seek7 I u) = _
  rw [seek7_at hi h1 h2]
theorem prev_first {I : List It17} (h : 0 < I.length) (u : ByteArray) : go7 I 5 u (norm7 I 0) = none := by
  unfold norm7
  rw [if_pos h]
  rfl
theorem prev_back {I : List It17} {j : Nat} (h : j + 1 < I.length) (u : ByteArray) : go7 I 5 u (norm7 I (j + 1)) = back7 (j + 1) := by
  unfold norm7
  rw [if_pos h]
  rfl
theorem prev_end (I : List It17) (u : ByteArray) : go7 I 5 u (norm7 I I.length) = none := by
  unfold norm7
  rw [if_neg (Nat.lt_irrefl _)]
  rfl
set_option maxRecDepth 100000 in
set_option maxHeartbeats 3000000 in
theorem viewSeeks_of {D : VwRel} (F : VwOk D) (a : Option Addr) (n c : Nat) (L0 : List (List KV)) (s : Nat) (u : ByteArray) (w : World) (h : LsAt w a n c L0) (hwf : WfLs L0) (hs : s < 18446744073709551616) :
    Calls Try.prog 8 #[.slice a n c, .int .u64 (s : Int), .string u] w fun e w' => e = .returned (.bool true) ∧ Below w.heap.size w w' := by
  have HWF : Hid (WfLs L0) := hwf
  clear hwf
  have H0 : Hid (LsAt w a n c L0) := h
  clear h
  go_enter Try.func8, Try.ntmps8
  go_wp2_with fail
  refine (awake17 F w).mono ?_
  rintro _ w1 ⟨rfl, hb1⟩
  have H1 : Hid (Below w.heap.size w w1) := hb1
  clear hb1
  go_wp2_with fail
  refine (few_any a n c L0 w1 (H0.out.below H1.out)).mono ?_
  rintro _ w2 ⟨a2, c2, rfl, hl2, hb2⟩
  have HF : Hid (FewV (fewL L0)) := fewL_ok HWF.out
  have HA8 : Hid ((allL (fewL L0)).length ≤ 8000) := fewL_all L0
  have HE2L : Hid (∀ i, lenL (fewL L0) i ≤ 200) := fewL_each L0
  generalize fewL L0 = L at hl2 HF HA8 HE2L ⊢
  have H2 : Hid (Below w.heap.size w w2 ∧ LsAt w2 a2 L.length c2 L) := ⟨H1.out.trans (hb2.mono H1.out.size), hl2⟩
  clear hl2 hb2 H0 H1
  have HL40 : L.length ≤ 1000 := HF.out.1
  go_wp2_with fail
  refine (F.new a2 L.length c2 L s w2 H2.out.2 HF.out hs).mono ?_
  rintro _ w3 ⟨hb3, hcase⟩
  rcases hcase with ⟨hr, p, R3, rfl, hd3, hR3⟩ | ⟨_, rfl⟩
  · have S3 : Hid (VwS D w2 w2.heap.size w3 R3 p (seenL s (allL L)) none (fun _ => False)) := VwS.made hd3 hb3 hb3.size hR3
    have HR : Hid (RiseL L) := hr
    clear hd3 hb3 hR3 hr
    go_wp2_with fail
    go_loopw [10, 11] (fun s6 s7 wr => ∃ (i : Nat), i ≤ L.length ∧ s7 = .int .i64 (i : Int) ∧ s6 = .int .i64 ((sumV (lenL L) i : Nat) : Int) ∧ wr = w3) (fun _ s7 _ => L.length - (intOf s7).toNat)
    case atStart => exact ⟨0, Nat.zero_le _, rfl, rfl, rfl⟩
    case round =>
      obtain ⟨i, hil, rfl, rfl, rfl⟩ := hrel
      have hsm : sumV (lenL L) i ≤ 8000 := by
        have h1 := sum_mono (lenL L) hil
        have h2 := HA8.out
        rw [all_sum] at h1
        omega
      by_cases hi : i < L.length
      · have hiI : (i : Int) < (L.length : Int) := by omega
        obtain ⟨bL, oL, aL, cL, hxL, hcL0, _⟩ := H2.out.2.lens hi
        have hcl := hcL0 _ S3.out.low
        have hll := HE2L.out i
        have HSS : Hid (((sumV (lenL L) (i + 1) : Nat) : Int) = ((sumV (lenL L) i : Nat) : Int) + (lenL L i : Int)) := by unfold Hid; rw [sum_step]; omega
        clear hcL0
        generalize lenL L i = ll at *
        go_wp2
        go_roundw
        case rel => exact ⟨i + 1, by omega, by go_num, by rw [HSS.out], by first | rfl | trivial⟩
        case measure => simp only [intOf]; omega
      · obtain rfl : i = L.length := by omega
        have hall := all_sum L
        rw [hall]
        rw [hall] at hsm
        clear hall
        have hiI : ¬ (L.length : Int) < (L.length : Int) := by omega
        have HIR : Hid ((seenL s (allL L)).Pairwise fun a b => uc a.1 b.1 < 0) := rise_seen (all_sortU HR.out)
        have HIL : Hid ((seenL s (allL L)).length ≤ (allL L).length) := seen_le _ _
        generalize seenL s (allL L) = I at S3 HIR HIL
        generalize (allL L).length = MO at hsm HIL ⊢
        go_wp2_with fail
        refine (all17 F S3.out HIR.out MO HIL.out (by omega)).mono ?_
        rintro _ w5 ⟨a5, c5, R5, rfl, hal⟩
        have L5 : Hid (Lv D w2 w2.heap.size w5 p I none wr.heap.size a5 c5 R5) := Lv.of hal
        have hI8 : I.length ≤ 8000 := by have := HIL.out; omega
        clear hal S3
        generalize wr.heap.size = BB at L5
        obtain ⟨N, hN⟩ : ∃ N, N = I.length := ⟨_, rfl⟩
        have HN : Hid (N = I.length) := hN
        rw [← hN]
        rw [← hN] at hI8
        clear hN
        go_wp2_with fail
        go_loopw [14] (fun s14 wr => ∃ (i : Nat), i ≤ N ∧ s14 = .int .i64 (i : Int) ∧ wr = w5 ∧ Hid (∀ j (hj : j < I.length), j < i → uc I[j].1 u < 0)) (fun s14 _ => N - (intOf s14).toNat)
        case atStart => exact ⟨0, Nat.zero_le _, rfl, rfl, fun j _ h => absurd h (Nat.not_lt_zero _)⟩
        case round =>
          obtain ⟨i, hiN, rfl, hwe, HLT⟩ := hrel
          subst hwe
          by_cases hi : i < N
          · have HIL2 : Hid (i < I.length) := by have := HN.out; unfold Hid; omega
            have hiI : (i : Int) < (N : Int) := by omega
            by_cases hlt : uc (I[i]'HIL2.out).1 u < 0
            · have hil := HIL2.out
              obtain ⟨g, rfl, hc⟩ := L5.out.own.cellsAt (by omega)
              have y0 := (hc i HIL2.out).1
              have hx := fun W => idxI W (b := g) (n := N) (c := c5) (i := i) hi
              have hbl := uc_less.1 hlt
              have HY : Hid (∀ j (hj : j < I.length), j < i + 1 → uc I[j].1 u < 0) := fun j hj hji => by
                by_cases e : j = i
                · subst e; exact hlt
                · exact HLT.out j hj (by omega)
              clear hlt hc
              generalize (I[i]'HIL2.out).1 = eu at y0 hbl
              go_wp2
              go_roundw
              case rel => exact ⟨i + 1, by omega, by go_num, by first | rfl | trivial, HY.out⟩
              case measure => simp only [intOf]; omega
            · have hil := HIL2.out
              obtain ⟨g, rfl, hc⟩ := L5.out.own.cellsAt (by omega)
              have y0 := (hc i HIL2.out).1
              have hx := fun W => idxI W (b := g) (n := N) (c := c5) (i := i) hi
              have hbl : Op.bytesLess (I[i]'HIL2.out).1.toList u.toList = false := by
                cases h : Op.bytesLess (I[i]'HIL2.out).1.toList u.toList with
                | false => rfl
                | true => exact absurd (uc_less.2 h) hlt
              have HSEEK : Hid (go7 I 3 u none = norm7 I i) := seek_stop (by omega) HLT.out (fun _ => hlt) none
              have HTOLD : Hid (told7 I (norm7 I i) = (I[i]'HIL2.out, true)) := told7_norm HIL2.out
              have HOC : Hid (∀ W9 : World, OwnI W9 BB (some ⟨g, 0, none⟩) I.length c5 I → W9.cell? ⟨g, i * 2, none⟩ = some (.string (I[i]'HIL2.out).1) ∧ W9.cell? ⟨g, i * 2 + 1, none⟩ = some (.string (I[i]'HIL2.out).2)) := fun W9 h9 => by
                obtain ⟨g', hg', hc'⟩ := h9.cellsAt (by omega)
                simp only [Option.some.injEq, Addr.mk.injEq, and_true] at hg'
                subst hg'
                exact hc' i HIL2.out
              have hneq := run_neq_it (I[i]'HIL2.out) (I[i]'HIL2.out)
              rw [show eqI (I[i]'HIL2.out) (I[i]'HIL2.out) = true from decide_eq_true rfl, show (!true) = false from rfl] at hneq
              unfold itA at hneq
              clear hc hlt HLT
              cases i with
              | zero =>
                have HPRV : Hid (go7 I 5 ⟨#[]⟩ (norm7 I 0) = none) := prev_first HIL2.out _
                simp only [Nat.zero_mul] at y0 hx
                generalize (I[0]'HIL2.out) = e at y0 hbl HTOLD HOC hneq
                have HSK : Hid (go7 I 3 u none = norm7 I 0) := HSEEK.out
                clear HSEEK
                go_wp2_with fail
                refine (F.seek u L5.out.vw.it).mono ?_
                rintro _ w6 ⟨rfl, hp6⟩
                obtain ⟨R6, h6⟩ := L5.out.step hp6
                rw [HSK.out] at h6
                have L6 : Hid (Lv D w2 w2.heap.size w6 p I (norm7 I 0) BB (some ⟨g, 0, none⟩) c5 R6) := h6
                clear hp6 h6 L5 HSK
                have hA : Calls Try.prog 13 #[at_ p] w6 fun x w' => x = .returned (.tuple #[.agg #[.string e.1, .string e.2], .bool true]) ∧ ∃ R', Lv D w2 w2.heap.size w' p I (norm7 I 0) BB (some ⟨g, 0, none⟩) c5 R' := L6.out.at' F HTOLD.out
                go_wp2_with fail
                refine hA.mono ?_
                rintro _ w8 ⟨rfl, R8, h8⟩
                have L8 : Hid (Lv D w2 w2.heap.size (w8.alloc (.cells #[.string e.1, .string e.2] TItm)) p I (norm7 I 0) BB (some ⟨g, 0, none⟩) c5 R8 ∧ Box (w8.alloc (.cells #[.string e.1, .string e.2] TItm)) w8.heap.size TItm #[.string e.1, .string e.2]) := ⟨h8.below F ((Below.refl _ _).alloc (Nat.le_refl _) _), Box.new _ _ _⟩
                clear h8 hA L6
                go_upto_region 21 with fail
                generalize w8.heap.size = q8 at L8 ⊢
                generalize w8.alloc (.cells #[.string e.1, .string e.2] TItm) = W9 at L8 ⊢
                have b0 := L8.out.2.cell 0
                have b1 := L8.out.2.cell 1
                simp only [List.getElem?_toArray, List.getElem?_cons_succ, List.getElem?_cons_zero] at b0 b1
                clear y0
                obtain ⟨y0, y1⟩ := HOC.out W9 L8.out.1.own
                simp only [Nat.zero_mul, Nat.zero_add] at y0 y1
                have L9 : Hid (∀ m, Lv D w2 w2.heap.size (W9.drewN m) p I (norm7 I 0) BB (some ⟨g, 0, none⟩) c5 R8 ∧ Box (W9.drewN m) q8 TItm #[.string e.1, .string e.2]) := fun m => ⟨L8.out.1.below F (Below.drewM (Below.refl _ _) _), L8.out.2⟩
                clear L8
                go_quiet (fail)
                have L10 := L9.out nq
                go_wp2_with fail
                refine (F.prev L10.1.vw.it).mono ?_
                rintro _ w10 ⟨rfl, hp10⟩
                obtain ⟨R10, h10⟩ := L10.1.step hp10
                rw [HPRV.out] at h10
                have L11 : Hid (Lv D w2 w2.heap.size w10 p I (none) BB (some ⟨g, 0, none⟩) c5 R10) := h10
                clear hp10 h10 L9 L10
                have hA2 : Calls Try.prog 13 #[at_ p] w10 fun x w' => x = .returned (.tuple #[.agg #[.string ⟨#[]⟩, .string ⟨#[]⟩], .bool false]) ∧ ∃ R', Lv D w2 w2.heap.size w' p I (none) BB (some ⟨g, 0, none⟩) c5 R' := L11.out.at' F (e := i0) (b := false) rfl
                go_wp2_with fail
                refine hA2.mono ?_
                rintro _ w12 ⟨rfl, R12, h12⟩
                have L12 : Hid (Lv D w2 w2.heap.size (w12.alloc (.cells #[.string ⟨#[]⟩, .string ⟨#[]⟩] TItm)) p I (none) BB (some ⟨g, 0, none⟩) c5 R12 ∧ Box (w12.alloc (.cells #[.string ⟨#[]⟩, .string ⟨#[]⟩] TItm)) w12.heap.size TItm #[.string ⟨#[]⟩, .string ⟨#[]⟩]) := ⟨h12.below F ((Below.refl _ _).alloc (Nat.le_refl _) _), Box.new _ _ _⟩
                clear h12 hA2 L11
                go_upto_region 25 with fail
                generalize w12.heap.size = q12 at L12 ⊢
                generalize w12.alloc (.cells #[.string ⟨#[]⟩, .string ⟨#[]⟩] TItm) = W13 at L12 ⊢
                have HB : Hid (∀ m, Below w.heap.size w (W13.drewN m)) := fun m => Below.drewM (H2.out.1.trans (L12.out.1.vw.low.mono H2.out.1.size)) m
                clear L12
                go_quiet (fail)
                go_wp2
                go_ret
                exact ⟨ret1 rfl, HB.out _⟩
              | succ j =>
                have HPRV : Hid (go7 I 5 ⟨#[]⟩ (norm7 I (j + 1)) = back7 (j + 1)) := prev_back HIL2.out _
                have HJL : Hid (j < I.length) := by have := HIL2.out; unfold Hid; omega
                have HTOLD2 : Hid (told7 I (back7 (j + 1)) = (I[j]'HJL.out, true)) := told7_back HJL.out
                have HOC2 : Hid (∀ (g : Nat) (W9 : World), OwnI W9 BB (some ⟨g, 0, none⟩) I.length c5 I → W9.cell? ⟨g, j * 2, none⟩ = some (.string (I[j]'HJL.out).1) ∧ W9.cell? ⟨g, j * 2 + 1, none⟩ = some (.string (I[j]'HJL.out).2)) := fun g W9 h9 => by
                  obtain ⟨g', hg', hc'⟩ := h9.cellsAt (by omega)
                  simp only [Option.some.injEq, Addr.mk.injEq, and_true] at hg'
                  subst hg'
                  exact hc' j HJL.out
                have heq2 := run_eql_it (I[j]'HJL.out) (I[j]'HJL.out)
                rw [show eqI (I[j]'HJL.out) (I[j]'HJL.out) = true from decide_eq_true rfl] at heq2
                unfold itA at heq2
                generalize (I[j + 1]'HIL2.out) = e at y0 hbl HTOLD HOC hneq
                generalize (I[j]'HJL.out) = d at HTOLD2 HOC2 heq2
                rw [show ((j + 1 : Nat) : Int) = (j : Int) + 1 by omega] at hx
                have HSK : Hid (go7 I 3 u none = norm7 I (j + 1)) := HSEEK.out
                clear HSEEK
                go_wp2_with fail
                refine (F.seek u L5.out.vw.it).mono ?_
                rintro _ w6 ⟨rfl, hp6⟩
                obtain ⟨R6, h6⟩ := L5.out.step hp6
                rw [HSK.out] at h6
                have L6 : Hid (Lv D w2 w2.heap.size w6 p I (norm7 I (j + 1)) BB (some ⟨g, 0, none⟩) c5 R6) := h6
                clear hp6 h6 L5 HSK
                have hA : Calls Try.prog 13 #[at_ p] w6 fun x w' => x = .returned (.tuple #[.agg #[.string e.1, .string e.2], .bool true]) ∧ ∃ R', Lv D w2 w2.heap.size w' p I (norm7 I (j + 1)) BB (some ⟨g, 0, none⟩) c5 R' := L6.out.at' F HTOLD.out
                go_wp2_with fail
                refine hA.mono ?_
                rintro _ w8 ⟨rfl, R8, h8⟩
                have L8 : Hid (Lv D w2 w2.heap.size (w8.alloc (.cells #[.string e.1, .string e.2] TItm)) p I (norm7 I (j + 1)) BB (some ⟨g, 0, none⟩) c5 R8 ∧ Box (w8.alloc (.cells #[.string e.1, .string e.2] TItm)) w8.heap.size TItm #[.string e.1, .string e.2]) := ⟨h8.below F ((Below.refl _ _).alloc (Nat.le_refl _) _), Box.new _ _ _⟩
                clear h8 hA L6
                go_upto_region 21 with fail
                generalize w8.heap.size = q8 at L8 ⊢
                generalize w8.alloc (.cells #[.string e.1, .string e.2] TItm) = W9 at L8 ⊢
                have b0 := L8.out.2.cell 0
                have b1 := L8.out.2.cell 1
                simp only [List.getElem?_toArray, List.getElem?_cons_succ, List.getElem?_cons_zero] at b0 b1
                clear y0
                obtain ⟨y0, y1⟩ := HOC.out W9 L8.out.1.own
                have L9 : Hid (∀ m, Lv D w2 w2.heap.size (W9.drewN m) p I (norm7 I (j + 1)) BB (some ⟨g, 0, none⟩) c5 R8 ∧ Box (W9.drewN m) q8 TItm #[.string e.1, .string e.2]) := fun m => ⟨L8.out.1.below F (Below.drewM (Below.refl _ _) _), L8.out.2⟩
                clear L8
                go_quiet (fail)
                have L10 := L9.out nq
                go_wp2_with fail
                refine (F.prev L10.1.vw.it).mono ?_
                rintro _ w10 ⟨rfl, hp10⟩
                obtain ⟨R10, h10⟩ := L10.1.step hp10
                rw [HPRV.out] at h10
                have L11 : Hid (Lv D w2 w2.heap.size w10 p I (back7 (j + 1)) BB (some ⟨g, 0, none⟩) c5 R10) := h10
                clear hp10 h10 L9 L10
                have hA2 : Calls Try.prog 13 #[at_ p] w10 fun x w' => x = .returned (.tuple #[.agg #[.string d.1, .string d.2], .bool true]) ∧ ∃ R', Lv D w2 w2.heap.size w' p I (back7 (j + 1)) BB (some ⟨g, 0, none⟩) c5 R' := L11.out.at' F HTOLD2.out
                go_wp2_with fail
                refine hA2.mono ?_
                rintro _ w12 ⟨rfl, R12, h12⟩
                have L12 : Hid (Lv D w2 w2.heap.size (w12.alloc (.cells #[.string d.1, .string d.2] TItm)) p I (back7 (j + 1)) BB (some ⟨g, 0, none⟩) c5 R12 ∧ Box (w12.alloc (.cells #[.string d.1, .string d.2] TItm)) w12.heap.size TItm #[.string d.1, .string d.2]) := ⟨h12.below F ((Below.refl _ _).alloc (Nat.le_refl _) _), Box.new _ _ _⟩
                clear h12 hA2 L11
                go_upto_region 25 with fail
                generalize w12.heap.size = q12 at L12 ⊢
                generalize w12.alloc (.cells #[.string d.1, .string d.2] TItm) = W13 at L12 ⊢
                obtain ⟨z0, z1⟩ := HOC2.out g W13 L12.out.1.own
                have hx2 := fun W => idxI W (b := g) (n := N) (c := c5) (i := j) (by omega)
                have b2 := L12.out.2.cell 0
                have b3 := L12.out.2.cell 1
                simp only [List.getElem?_toArray, List.getElem?_cons_succ, List.getElem?_cons_zero] at b2 b3
                have hwj : IntKind.i64.wrap ((j : Int) + 1 - 1) = (j : Int) := by rw [IntKind.wrap_i64]; omega
                have hwj2 : IntKind.i64.wrap (j : Int) = (j : Int) := by rw [IntKind.wrap_i64]; omega
                clear b0 b1 y0 y1
                have HB : Hid (∀ m, Below w.heap.size w (W13.drewN m)) := fun m => Below.drewM (H2.out.1.trans (L12.out.1.vw.low.mono H2.out.1.size)) m
                clear L12
                go_quiet (fail)
                go_wp2
                go_ret
                exact ⟨ret1 rfl, HB.out _⟩
          · obtain rfl : i = N := by omega
            have HSEEK : Hid (go7 I 3 u none = norm7 I i) := seek_stop (by have := HN.out; omega) HLT.out (fun h => absurd h (by have := HN.out; omega)) none
            have HTOLD : Hid (told7 I (norm7 I i) = (i0, false)) := by rw [HN.out]; exact told7_end I
            have HPRV : Hid (go7 I 5 ⟨#[]⟩ (norm7 I i) = none) := by rw [HN.out]; exact prev_end I _
            have hiI : ¬ (i : Int) < (i : Int) := by omega
            clear HLT
            have HSK : Hid (go7 I 3 u none = norm7 I i) := HSEEK.out
            clear HSEEK
            go_wp2_with fail
            refine (F.seek u L5.out.vw.it).mono ?_
            rintro _ w6 ⟨rfl, hp6⟩
            obtain ⟨R6, h6⟩ := L5.out.step hp6
            rw [HSK.out] at h6
            have L6 : Hid (Lv D w2 w2.heap.size w6 p I (norm7 I i) BB a5 c5 R6) := h6
            clear hp6 h6 L5 HSK
            have hA : Calls Try.prog 13 #[at_ p] w6 fun x w' => x = .returned (.tuple #[.agg #[.string ⟨#[]⟩, .string ⟨#[]⟩], .bool false]) ∧ ∃ R', Lv D w2 w2.heap.size w' p I (norm7 I i) BB a5 c5 R' := L6.out.at' F HTOLD.out
            go_wp2_with fail
            refine hA.mono ?_
            rintro _ w8 ⟨rfl, R8, h8⟩
            have L8 : Hid (Lv D w2 w2.heap.size (w8.alloc (.cells #[.string ⟨#[]⟩, .string ⟨#[]⟩] TItm)) p I (norm7 I i) BB a5 c5 R8 ∧ Box (w8.alloc (.cells #[.string ⟨#[]⟩, .string ⟨#[]⟩] TItm)) w8.heap.size TItm #[.string ⟨#[]⟩, .string ⟨#[]⟩]) := ⟨h8.below F ((Below.refl _ _).alloc (Nat.le_refl _) _), Box.new _ _ _⟩
            clear h8 hA L6
            go_upto_region 21 with fail
            generalize w8.heap.size = q8 at L8 ⊢
            generalize w8.alloc (.cells #[.string ⟨#[]⟩, .string ⟨#[]⟩] TItm) = W9 at L8 ⊢
            have L9 : Hid (∀ m, Lv D w2 w2.heap.size (W9.drewN m) p I (norm7 I i) BB a5 c5 R8 ∧ Box (W9.drewN m) q8 TItm #[.string ⟨#[]⟩, .string ⟨#[]⟩]) := fun m => ⟨L8.out.1.below F (Below.drewM (Below.refl _ _) _), L8.out.2⟩
            clear L8
            go_quiet (fail)
            have L10 := L9.out nq
            go_wp2_with fail
            refine (F.prev L10.1.vw.it).mono ?_
            rintro _ w10 ⟨rfl, hp10⟩
            obtain ⟨R10, h10⟩ := L10.1.step hp10
            rw [HPRV.out] at h10
            have L11 : Hid (Lv D w2 w2.heap.size w10 p I (none) BB a5 c5 R10) := h10
            clear hp10 h10 L9 L10
            have hA2 : Calls Try.prog 13 #[at_ p] w10 fun x w' => x = .returned (.tuple #[.agg #[.string ⟨#[]⟩, .string ⟨#[]⟩], .bool false]) ∧ ∃ R', Lv D w2 w2.heap.size w' p I (none) BB a5 c5 R' := L11.out.at' F (e := i0) (b := false) rfl
            go_wp2_with fail
            refine hA2.mono ?_
            rintro _ w12 ⟨rfl, R12, h12⟩
            have L12 : Hid (Lv D w2 w2.heap.size (w12.alloc (.cells #[.string ⟨#[]⟩, .string ⟨#[]⟩] TItm)) p I (none) BB a5 c5 R12 ∧ Box (w12.alloc (.cells #[.string ⟨#[]⟩, .string ⟨#[]⟩] TItm)) w12.heap.size TItm #[.string ⟨#[]⟩, .string ⟨#[]⟩]) := ⟨h12.below F ((Below.refl _ _).alloc (Nat.le_refl _) _), Box.new _ _ _⟩
            clear h12 hA2 L11
            go_upto_region 25 with fail
            generalize w12.heap.size = q12 at L12 ⊢
            generalize w12.alloc (.cells #[.string ⟨#[]⟩, .string ⟨#[]⟩] TItm) = W13 at L12 ⊢
            have HB : Hid (∀ m, Below w.heap.size w (W13.drewN m)) := fun m => Below.drewM (H2.out.1.trans (L12.out.1.vw.low.mono H2.out.1.size)) m
            clear L12
            go_quiet (fail)
            go_wp2
            go_ret
            exact ⟨ret1 rfl, HB.out _⟩
  · have HB : Hid (Below w.heap.size w w3) := H2.out.1.trans (hb3.mono H2.out.1.size)
    clear hb3
    go_wp2
    go_ret
    exact ⟨ret1 rfl, HB.out⟩
end Go.Proofs.Ytjoamhcehpjepaa
