/- What a view takes of a user: on. -/
import Derived.Test.YtjoamhcehpjepabQa14
import Derived.Laws.EntriesVeiled
import Derived.RangeFuncIn
import Derived.RangeFuncRecord
import Derived.RangeFuncSeq
namespace Go.Proofs.Ytjoamhcehpjepab
open Go.RowKit
set_option linter.unusedVariables false
set_option linter.unusedSimpArgs false
section
variable {T : Tl} {w : World} {R : Nat → Prop} {p : Nat} {L : List (List KV)} {s i j : Nat} {u : ByteArray}
set_option maxRecDepth 100000 in
set_option maxHeartbeats 4000000 in
theorem newest_on (h : MgV T w R p L (posV (allL L) i true)) (hcut : CutV s (allL L) i j) (hi : i < (allL L).length) (hu : (allL L)[i].1.user = u) (hsq : T.sq = .int .u64 (s : Int)) (hwb : T.wb = .bool false) (hws : T.ws = .func (.func 25) #[] #[]) :
    Calls Try.prog 38 #[at_ p, .string u] w fun e w' => NewP T w R p L i s u true e w' := by
  have HS0 : Hid (SortU (allL L)) := all_sortU h.rise
  have HCP : Hid (∀ (W : World) (R' : Nat → Prop) (o : Option Nat), MgV T W R' p L o → W.cell? ⟨p, 5, none⟩ = some (.int .u64 (s : Int)) ∧ W.cell? ⟨p, 6, none⟩ = some (.bool false) ∧ W.cell? ⟨p, 7, none⟩ = some (.func (.func 25) #[] #[])) := fun W R' o hW => by
    obtain ⟨c5, c6, c7, _⟩ := hW.cells
    rw [hsq] at c5; rw [hwb] at c6; rw [hws] at c7
    exact ⟨c5, c6, c7⟩
  have HCS : Hid (∀ (W : World) (R' : Nat → Prop) (m : Nat), MgV T W R' p L (some m) → W.cell? ⟨p, 5, none⟩ = some (.int .u64 (s : Int)) ∧ W.cell? ⟨p, 6, none⟩ = some (.bool false) ∧ W.cell? ⟨p, 7, none⟩ = some (.func (.func 25) #[] #[])) := fun W R' m => HCP.out W R' _
  have HM : Hid (MgV T w R p L (posV (allL L) i true)) := h
  have HI : Hid (i < (allL L).length ∧ (∀ h0 : 0 < i, ((allL L)[i - 1]'(by omega)).1.user ≠ u) ∧ (allL L)[i].1.user = u) := ⟨hi, fun h0 => by rw [← hu]; exact cut_lo hcut hi h0, hu⟩
  clear h hcut hu hsq hwb hws
  have HAL : Hid (MgV T (w.alloc (.cells #[.string ⟨#[]⟩, .int .u64 0, .int .i64 0, .string ⟨#[]⟩] TKV)) R p L (posV (allL L) i true)) := mv_kept HM.out (by simp) fun k hk => Below.heap_alloc _ _ _ (mv_lt HM.out k hk)
  obtain ⟨e0, bb0, ht0⟩ : ∃ e0 bb0, told16 (allL L) (posV (allL L) i true) = (e0, bb0) := ⟨_, _, rfl⟩
  have HT0 : Hid (told16 (allL L) (posV (allL L) i true) = (e0, bb0)) := ht0
  have HAT0 := at17 HAL.out ht0
  clear ht0
  have HBN : Hid (∀ m (e : KV) bb, told16 (allL L) (posV (allL L) m true) = (e, bb) → bb = decide (m < (allL L).length)) := fun m e bb he => by
    by_cases hm : m < (allL L).length
    · have e1 : posV (allL L) m true = some m := by unfold posV normO; rw [if_pos hm]
      rw [e1, told_some hm] at he
      cases he; simp [hm]
    · have e1 : posV (allL L) m true = none := by unfold posV normO; rw [if_neg hm]
      rw [e1, told_none] at he
      cases he; simp [hm]
  go_enter Try.func38, Try.ntmps38
  go_wp2_with fail
  refine HAT0.mono ?_
  rintro _ v0 ⟨rfl, hp0⟩
  have HF0 : Hid (NewI T w (v0.alloc (.cells #[.string e0.1.user, .int .u64 (e0.1.seq : Int), .int .i64 e0.1.kind, .string e0.2] TKV)) R p L w.heap.size v0.heap.size (posV (allL L) i true) none) := NewI.begin hp0 HM.out (by rw [HT0.out])
  clear hp0 HAT0 HAL
  go_wp2_with fail
  go_loopw [5, 6, 7] (fun s5 s6 s7 wr => ∃ (m q : Nat), i ≤ m ∧ m ≤ (allL L).length ∧ s5 = .bool (lget17 (segL (allL L) i m) u s).isSome ∧ s6 = at_ q ∧ s7 = .bool (decide (m < (allL L).length)) ∧ Hid (NewI T w wr R p L w.heap.size q (posV (allL L) m true) (lget17 (segL (allL L) i m) u s)) ∧ Hid (∀ k (hk : k < (allL L).length), i ≤ k → k < m → (allL L)[k].1.user = u)) (fun _ _ _ wr => farV (allL L).length true (posW L p wr))
  case atStart => exact ⟨i, v0.heap.size, Nat.le_refl _, Nat.le_of_lt HI.out.1, by rw [seg_nil]; rfl, rfl, by rw [HBN.out _ _ _ HT0.out], by rw [seg_nil]; exact HF0.out, fun k hk h1 h2 => by omega⟩
  case round =>
    clear HF0 HT0
    obtain ⟨m, q, him, hml, rfl, rfl, rfl, HN, HH⟩ := hrel
    obtain ⟨rv, hrv⟩ : ∃ rv, rv = lget17 (segL (allL L) i m) u s := ⟨_, rfl⟩
    rw [← hrv]
    have HRV : Hid (rv = lget17 (segL (allL L) i m) u s) := hrv
    rw [← hrv] at HN
    clear hrv
    have n0c := HN.out.bn.cell 0
    have n1c := HN.out.bn.cell 1
    have n2c := HN.out.bn.cell 2
    have n3c := HN.out.bn.cell 3
    have ns := HN.out.bn.soft
    simp only [List.getElem?_toArray, List.getElem?_cons_succ, List.getElem?_cons_zero] at n0c n1c n2c n3c
    by_cases hmm : m < (allL L).length
    · have hpm : posV (allL L) m true = some m := by unfold posV normO; rw [if_pos hmm]
      have HPM : Hid (posV (allL L) m true = some m) := hpm
      rw [hpm] at HN
      have hd1 : decide (m < (allL L).length) = true := decide_eq_true hmm
      rw [hd1]
      have HMM : Hid (m < (allL L).length) := hmm
      clear hpm hd1
      obtain ⟨E, hE⟩ : ∃ E, E = (allL L)[m] := ⟨_, rfl⟩
      have HE0 : Hid (E = (allL L)[m]'HMM.out) := hE
      have hbq := HN.out.bq
      have htm : told16 (allL L) (some m) = (E, true) := by rw [hE]; exact told_some _
      rw [htm] at hbq
      clear htm
      have b0 := hbq.cell 0
      have b1 := hbq.cell 1
      have b2 := hbq.cell 2
      have b3 := hbq.cell 3
      simp only [List.getElem?_toArray, List.getElem?_cons_succ, List.getElem?_cons_zero] at b0 b1 b2 b3
      clear hE hbq
      by_cases hue : E.1.user = u
      · have HU : Hid (E.1.user = u) := hue
        obtain ⟨RN, hRN⟩ := HN.out.iv
        obtain ⟨c5, c6, c7⟩ := HCS.out wr RN _ hRN.it
        clear hRN
        have HPN : Hid (goP (allL L) 4 kvZ.1 (some m) = posV (allL L) (m + 1) true) := by
          rfl
        have HHM : Hid (∀ k (hk : k < (allL L).length), i ≤ k → k < m + 1 → (allL L)[k].1.user = u) := fun k hk h1 h2 => by
          by_cases e : k = m
          · subst e; rw [← HE0.out]; exact HU.out
          · exact HH.out k hk h1 (by omega)
        have HMS : Hid (farV (allL L).length true (posV (allL L) (m + 1) true) < farV (allL L).length true (some m)) := by
          show farV _ true (normO (allL L) (m + 1)) < (allL L).length - m
          have := HMM.out
          unfold normO
          by_cases h2 : m + 1 < (allL L).length
          · rw [if_pos h2]
            show (allL L).length - (m + 1) < _
            omega
          · rw [if_neg h2]
            show 0 < _
            omega
        have HM0 : posW L p wr = some m := HN.out.pos
        have heq : (E.1.user.toList == u.toList) = true := by rw [hue]; simp
        have HLG : Hid (lget17 (segL (allL L) i (m + 1)) u s = rv.or (if E.1.seq ≤ s then some E else none)) := by
          rw [HRV.out, HE0.out]
          exact lget_on him HMM.out (by rw [← HE0.out]; exact HU.out)
        clear hue HH
        by_cases hsq : E.1.seq ≤ s
        · have hsI : ((E.1.seq : Int) ≤ (s : Int)) := by omega
          cases rv with
          | none =>
            have HRN : Hid (lget17 (segL (allL L) i (m + 1)) u s = (some E)) := HLG.out.trans (by simp [hsq])
            clear HLG
            go_wp2_with fail
            go_quiet (fail)
            have HN1 : Hid (NewI T w (((((wr.drewN nq).setCell ⟨w.heap.size, 0, none⟩ (.string E.1.user)).setCell ⟨w.heap.size, 1, none⟩ (.int .u64 (E.1.seq : Int))).setCell ⟨w.heap.size, 2, none⟩ (.int .i64 E.1.kind)).setCell ⟨w.heap.size, 3, none⟩ (.string E.2)) R p L w.heap.size q (some m) (some E)) := (HN.out.below (Below.drewM (Below.refl _ _) nq)).found E
            clear HN
            go_wp2_with fail
            generalize (((((wr.drewN nq).setCell ⟨w.heap.size, 0, none⟩ (.string E.1.user)).setCell ⟨w.heap.size, 1, none⟩ (.int .u64 (E.1.seq : Int))).setCell ⟨w.heap.size, 2, none⟩ (.int .i64 E.1.kind)).setCell ⟨w.heap.size, 3, none⟩ (.string E.2)) = W1 at HN1 ⊢
            obtain ⟨RJ, hJ⟩ := HN1.out.toJ
            have HJ : Hid (NewJ T w W1 R RJ p L w.heap.size q (some m) (some E)) := hJ
            clear hJ HN1
            obtain ⟨_, _, d7⟩ := HCS.out W1 RJ m HJ.out.iv.it
            clear c5 c6 c7 b0 b1 b2 b3 n0c n1c n2c n3c
            have HB0 : Hid (Below W1.heap.size W1 W1.drew) := (Below.refl _ _).drew
            have e7 : W1.drew.cell? ⟨p, 7, none⟩ = some (.func (.func 25) #[] #[]) := d7
            clear d7
            go_region_held3 (fun V => V.cell? ⟨p, 7, none⟩ = some (.func (.func 25) #[] #[])) (first | exact e7 | go_keep)
              (first
               | (go_at_call 25; refine (next_v (HJ.out.below HB0.out).iv.it).mono ?_; rintro _ vs ⟨rfl, hps⟩
                  obtain ⟨RS, hS⟩ := (HJ.out.below HB0.out).step hps
                  have HS : Hid (NewJ T w vs R RS p L w.heap.size q (posV (allL L) (m + 1) true) (some E)) := by
                    rw [← HPN.out]; exact hS
                  obtain ⟨_, _, e7⟩ := HCP.out vs RS _ HS.out.iv.it
                  clear hps hS))
            clear e7 HB0 HJ
            obtain ⟨eo, hBE⟩ := HS.out.bq
            have f0 := hBE.cell 0
            have f1 := hBE.cell 1
            have f2 := hBE.cell 2
            have f3 := hBE.cell 3
            simp only [List.getElem?_toArray, List.getElem?_cons_succ, List.getElem?_cons_zero] at f0 f1 f2 f3
            clear hBE
            have HC2 : Hid (NewJ T w (vs.alloc (.cells #[.string eo.1.user, .int .u64 (eo.1.seq : Int), .int .i64 eo.1.kind, .string eo.2] TKV)) R RS p L w.heap.size vs.heap.size (posV (allL L) (m + 1) true) (some E)) := HS.out.copy eo
            clear HS
            obtain ⟨en, bn, htn⟩ : ∃ en bn, told16 (allL L) (posV (allL L) (m + 1) true) = (en, bn) := ⟨_, _, rfl⟩
            have HTN : Hid (told16 (allL L) (posV (allL L) (m + 1) true) = (en, bn)) := htn
            have HAT := at17 HC2.out.iv.it htn
            clear htn
            go_wp2_with fail
            refine HAT.mono ?_
            rintro _ va ⟨rfl, hpa⟩
            obtain ⟨RA, hA⟩ := HC2.out.step hpa
            have HA2 : Hid (NewJ T w va R RA p L w.heap.size vs.heap.size (posV (allL L) (m + 1) true) (some E)) := hA
            obtain ⟨ep, hEP⟩ := hA.bq
            have g0 := hEP.cell 0
            have g1 := hEP.cell 1
            have g2 := hEP.cell 2
            have g3 := hEP.cell 3
            simp only [List.getElem?_toArray, List.getElem?_cons_succ, List.getElem?_cons_zero] at g0 g1 g2 g3
            have gs := hEP.soft
            clear hEP hA hpa HC2 HAT f0 f1 f2 f3
            have HF : Hid (NewI T w ((((va.setCell ⟨vs.heap.size, 0, none⟩ (.string en.1.user)).setCell ⟨vs.heap.size, 1, none⟩ (.int .u64 (en.1.seq : Int))).setCell ⟨vs.heap.size, 2, none⟩ (.int .i64 en.1.kind)).setCell ⟨vs.heap.size, 3, none⟩ (.string en.2)) R p L w.heap.size vs.heap.size (posV (allL L) (m + 1) true) (some E)) := HA2.out.put (by rw [HTN.out])
            clear HA2
            go_wp2
            go_roundw
            case rel => exact ⟨m + 1, vs.heap.size, by omega, by omega, by rw [HRN.out] <;> rfl, rfl, by rw [HBN.out _ _ _ HTN.out], by rw [HRN.out]; exact HF.out, HHM.out⟩
            case measure =>
              rw [HF.out.pos, HM0]
              exact HMS.out
          | some rk =>
            have HRN : Hid (lget17 (segL (allL L) i (m + 1)) u s = (some rk)) := HLG.out.trans (by simp [hsq])
            clear HLG
            go_wp2_with fail
            go_quiet (fail)
            have HN1 : Hid (NewI T w (wr.drewN nq) R p L w.heap.size q (some m) (some rk)) := HN.out.below (Below.drewM (Below.refl _ _) nq)
            clear HN
            go_wp2_with fail
            generalize wr.drewN nq = W1 at HN1 ⊢
            obtain ⟨RJ, hJ⟩ := HN1.out.toJ
            have HJ : Hid (NewJ T w W1 R RJ p L w.heap.size q (some m) (some rk)) := hJ
            clear hJ HN1
            obtain ⟨_, _, d7⟩ := HCS.out W1 RJ m HJ.out.iv.it
            clear c5 c6 c7 b0 b1 b2 b3 n0c n1c n2c n3c
            have HB0 : Hid (Below W1.heap.size W1 W1.drew) := (Below.refl _ _).drew
            have e7 : W1.drew.cell? ⟨p, 7, none⟩ = some (.func (.func 25) #[] #[]) := d7
            clear d7
            go_region_held3 (fun V => V.cell? ⟨p, 7, none⟩ = some (.func (.func 25) #[] #[])) (first | exact e7 | go_keep)
              (first
               | (go_at_call 25; refine (next_v (HJ.out.below HB0.out).iv.it).mono ?_; rintro _ vs ⟨rfl, hps⟩
                  obtain ⟨RS, hS⟩ := (HJ.out.below HB0.out).step hps
                  have HS : Hid (NewJ T w vs R RS p L w.heap.size q (posV (allL L) (m + 1) true) (some rk)) := by
                    rw [← HPN.out]; exact hS
                  obtain ⟨_, _, e7⟩ := HCP.out vs RS _ HS.out.iv.it
                  clear hps hS))
            clear e7 HB0 HJ
            obtain ⟨eo, hBE⟩ := HS.out.bq
            have f0 := hBE.cell 0
            have f1 := hBE.cell 1
            have f2 := hBE.cell 2
            have f3 := hBE.cell 3
            simp only [List.getElem?_toArray, List.getElem?_cons_succ, List.getElem?_cons_zero] at f0 f1 f2 f3
            clear hBE
            have HC2 : Hid (NewJ T w (vs.alloc (.cells #[.string eo.1.user, .int .u64 (eo.1.seq : Int), .int .i64 eo.1.kind, .string eo.2] TKV)) R RS p L w.heap.size vs.heap.size (posV (allL L) (m + 1) true) (some rk)) := HS.out.copy eo
            clear HS
            obtain ⟨en, bn, htn⟩ : ∃ en bn, told16 (allL L) (posV (allL L) (m + 1) true) = (en, bn) := ⟨_, _, rfl⟩
            have HTN : Hid (told16 (allL L) (posV (allL L) (m + 1) true) = (en, bn)) := htn
            have HAT := at17 HC2.out.iv.it htn
            clear htn
            go_wp2_with fail
            refine HAT.mono ?_
            rintro _ va ⟨rfl, hpa⟩
            obtain ⟨RA, hA⟩ := HC2.out.step hpa
            have HA2 : Hid (NewJ T w va R RA p L w.heap.size vs.heap.size (posV (allL L) (m + 1) true) (some rk)) := hA
            obtain ⟨ep, hEP⟩ := hA.bq
            have g0 := hEP.cell 0
            have g1 := hEP.cell 1
            have g2 := hEP.cell 2
            have g3 := hEP.cell 3
            simp only [List.getElem?_toArray, List.getElem?_cons_succ, List.getElem?_cons_zero] at g0 g1 g2 g3
            have gs := hEP.soft
            clear hEP hA hpa HC2 HAT f0 f1 f2 f3
            have HF : Hid (NewI T w ((((va.setCell ⟨vs.heap.size, 0, none⟩ (.string en.1.user)).setCell ⟨vs.heap.size, 1, none⟩ (.int .u64 (en.1.seq : Int))).setCell ⟨vs.heap.size, 2, none⟩ (.int .i64 en.1.kind)).setCell ⟨vs.heap.size, 3, none⟩ (.string en.2)) R p L w.heap.size vs.heap.size (posV (allL L) (m + 1) true) (some rk)) := HA2.out.put (by rw [HTN.out])
            clear HA2
            go_wp2
            go_roundw
            case rel => exact ⟨m + 1, vs.heap.size, by omega, by omega, by rw [HRN.out] <;> rfl, rfl, by rw [HBN.out _ _ _ HTN.out], by rw [HRN.out]; exact HF.out, HHM.out⟩
            case measure =>
              rw [HF.out.pos, HM0]
              exact HMS.out
        · have hsI : ¬ ((E.1.seq : Int) ≤ (s : Int)) := by omega
          have HRN : Hid (lget17 (segL (allL L) i (m + 1)) u s = rv) := HLG.out.trans (by simp [hsq])
          clear HLG
          go_wp2_with fail
          go_quiet (fail)
          have HN1 : Hid (NewI T w (wr.drewN nq) R p L w.heap.size q (some m) rv) := HN.out.below (Below.drewM (Below.refl _ _) nq)
          clear HN
          go_wp2_with fail
          generalize wr.drewN nq = W1 at HN1 ⊢
          obtain ⟨RJ, hJ⟩ := HN1.out.toJ
          have HJ : Hid (NewJ T w W1 R RJ p L w.heap.size q (some m) rv) := hJ
          clear hJ HN1
          obtain ⟨_, _, d7⟩ := HCS.out W1 RJ m HJ.out.iv.it
          clear c5 c6 c7 b0 b1 b2 b3 n0c n1c n2c n3c
          have HB0 : Hid (Below W1.heap.size W1 W1.drew) := (Below.refl _ _).drew
          have e7 : W1.drew.cell? ⟨p, 7, none⟩ = some (.func (.func 25) #[] #[]) := d7
          clear d7
          go_region_held3 (fun V => V.cell? ⟨p, 7, none⟩ = some (.func (.func 25) #[] #[])) (first | exact e7 | go_keep)
            (first
             | (go_at_call 25; refine (next_v (HJ.out.below HB0.out).iv.it).mono ?_; rintro _ vs ⟨rfl, hps⟩
                obtain ⟨RS, hS⟩ := (HJ.out.below HB0.out).step hps
                have HS : Hid (NewJ T w vs R RS p L w.heap.size q (posV (allL L) (m + 1) true) rv) := by
                  rw [← HPN.out]; exact hS
                obtain ⟨_, _, e7⟩ := HCP.out vs RS _ HS.out.iv.it
                clear hps hS))
          clear e7 HB0 HJ
          obtain ⟨eo, hBE⟩ := HS.out.bq
          have f0 := hBE.cell 0
          have f1 := hBE.cell 1
          have f2 := hBE.cell 2
          have f3 := hBE.cell 3
          simp only [List.getElem?_toArray, List.getElem?_cons_succ, List.getElem?_cons_zero] at f0 f1 f2 f3
          clear hBE
          have HC2 : Hid (NewJ T w (vs.alloc (.cells #[.string eo.1.user, .int .u64 (eo.1.seq : Int), .int .i64 eo.1.kind, .string eo.2] TKV)) R RS p L w.heap.size vs.heap.size (posV (allL L) (m + 1) true) rv) := HS.out.copy eo
          clear HS
          obtain ⟨en, bn, htn⟩ : ∃ en bn, told16 (allL L) (posV (allL L) (m + 1) true) = (en, bn) := ⟨_, _, rfl⟩
          have HTN : Hid (told16 (allL L) (posV (allL L) (m + 1) true) = (en, bn)) := htn
          have HAT := at17 HC2.out.iv.it htn
          clear htn
          go_wp2_with fail
          refine HAT.mono ?_
          rintro _ va ⟨rfl, hpa⟩
          obtain ⟨RA, hA⟩ := HC2.out.step hpa
          have HA2 : Hid (NewJ T w va R RA p L w.heap.size vs.heap.size (posV (allL L) (m + 1) true) rv) := hA
          obtain ⟨ep, hEP⟩ := hA.bq
          have g0 := hEP.cell 0
          have g1 := hEP.cell 1
          have g2 := hEP.cell 2
          have g3 := hEP.cell 3
          simp only [List.getElem?_toArray, List.getElem?_cons_succ, List.getElem?_cons_zero] at g0 g1 g2 g3
          have gs := hEP.soft
          clear hEP hA hpa HC2 HAT f0 f1 f2 f3
          have HF : Hid (NewI T w ((((va.setCell ⟨vs.heap.size, 0, none⟩ (.string en.1.user)).setCell ⟨vs.heap.size, 1, none⟩ (.int .u64 (en.1.seq : Int))).setCell ⟨vs.heap.size, 2, none⟩ (.int .i64 en.1.kind)).setCell ⟨vs.heap.size, 3, none⟩ (.string en.2)) R p L w.heap.size vs.heap.size (posV (allL L) (m + 1) true) rv) := HA2.out.put (by rw [HTN.out])
          clear HA2
          go_wp2
          go_roundw
          case rel => exact ⟨m + 1, vs.heap.size, by omega, by omega, by rw [HRN.out] <;> rfl, rfl, by rw [HBN.out _ _ _ HTN.out], by rw [HRN.out]; exact HF.out, HHM.out⟩
          case measure =>
            rw [HF.out.pos, HM0]
            exact HMS.out
      · have heq : (E.1.user.toList == u.toList) = false := by
          rw [beq_eq_false_iff_ne]
          exact fun e => hue (ba_ext17 (by simpa [ByteArray.toList_eq] using e))
        have HG : Hid (GroupV (allL L) i m u) := by
          have hne : ((allL L)[m]'HMM.out).1.user ≠ u := by rw [← HE0.out]; exact hue
          have him2 : i < m := by
            by_cases e : i = m
            · subst e; exact absurd HI.out.2.2 hne
            · omega
          exact group_of HS0.out him2 hml (fun k hk h1 h2 => HH.out k hk h1 h2) HI.out.2.1 (fun _ => hne)
        have HE : Hid (NewP T w R p L i s u true (.returned (.tuple #[.agg (kvA (rv.getD kvZ)), .bool rv.isSome])) ((((wr.setCell ⟨w.heap.size, 0, none⟩ (.string (rv.getD kvZ).1.user)).setCell ⟨w.heap.size, 1, none⟩ (.int .u64 ((rv.getD kvZ).1.seq : Int))).setCell ⟨w.heap.size, 2, none⟩ (.int .i64 (rv.getD kvZ).1.kind)).setCell ⟨w.heap.size, 3, none⟩ (.string (rv.getD kvZ).2)) ∧ Box ((((wr.setCell ⟨w.heap.size, 0, none⟩ (.string (rv.getD kvZ).1.user)).setCell ⟨w.heap.size, 1, none⟩ (.int .u64 ((rv.getD kvZ).1.seq : Int))).setCell ⟨w.heap.size, 2, none⟩ (.int .i64 (rv.getD kvZ).1.kind)).setCell ⟨w.heap.size, 3, none⟩ (.string (rv.getD kvZ).2)) w.heap.size TKV (kvA (rv.getD kvZ))) := by
          obtain ⟨h1, h2⟩ := HN.out.fin (e := rv.getD kvZ) rfl
          have hrg : rv = lget17 (allL L) u s := by rw [HRV.out]; exact (HG.out.get s).symm
          exact ⟨⟨m, HG.out, by rw [← hrg], (by rw [HPM.out]; exact h1)⟩, h2⟩
        clear hue
        clear HN HRV HG HH HI HPM HE0 HM HCP HCS HS0 HBN
        go_wp2_with fail
        generalize rv.getD kvZ = rk at *
        generalize ((((wr.setCell ⟨w.heap.size, 0, none⟩ (.string rk.1.user)).setCell ⟨w.heap.size, 1, none⟩ (.int .u64 (rk.1.seq : Int))).setCell ⟨w.heap.size, 2, none⟩ (.int .i64 rk.1.kind)).setCell ⟨w.heap.size, 3, none⟩ (.string rk.2)) = wz at HE ⊢
        have z0 := HE.out.2.cell 0
        have z1 := HE.out.2.cell 1
        have z2 := HE.out.2.cell 2
        have z3 := HE.out.2.cell 3
        simp only [List.getElem?_toArray, List.getElem?_cons_succ, List.getElem?_cons_zero] at z0 z1 z2 z3
        exact bodyPost_ret (v := .tuple #[.agg #[.string rk.1.user, .int .u64 (rk.1.seq : Int), .int .i64 rk.1.kind, .string rk.2], .bool rv.isSome]) (by simp [results, Try.results38, go_sem, z0, z1, z2, z3]) rfl HE.out.1
    · have hd1 : decide (m < (allL L).length) = false := decide_eq_false hmm
      rw [hd1]
      clear hd1
      have HG : Hid (GroupV (allL L) i m u) := group_of HS0.out (by omega) hml (fun k hk h1 h2 => HH.out k hk h1 h2) HI.out.2.1 (fun h1 => absurd h1 hmm)
      have HE : Hid (NewP T w R p L i s u true (.returned (.tuple #[.agg (kvA (rv.getD kvZ)), .bool rv.isSome])) ((((wr.setCell ⟨w.heap.size, 0, none⟩ (.string (rv.getD kvZ).1.user)).setCell ⟨w.heap.size, 1, none⟩ (.int .u64 ((rv.getD kvZ).1.seq : Int))).setCell ⟨w.heap.size, 2, none⟩ (.int .i64 (rv.getD kvZ).1.kind)).setCell ⟨w.heap.size, 3, none⟩ (.string (rv.getD kvZ).2)) ∧ Box ((((wr.setCell ⟨w.heap.size, 0, none⟩ (.string (rv.getD kvZ).1.user)).setCell ⟨w.heap.size, 1, none⟩ (.int .u64 ((rv.getD kvZ).1.seq : Int))).setCell ⟨w.heap.size, 2, none⟩ (.int .i64 (rv.getD kvZ).1.kind)).setCell ⟨w.heap.size, 3, none⟩ (.string (rv.getD kvZ).2)) w.heap.size TKV (kvA (rv.getD kvZ))) := by
        obtain ⟨h1, h2⟩ := HN.out.fin (e := rv.getD kvZ) rfl
        have hrg : rv = lget17 (allL L) u s := by rw [HRV.out]; exact (HG.out.get s).symm
        exact ⟨⟨m, HG.out, by rw [← hrg], h1⟩, h2⟩
      clear HN HRV HG HH HI HM HCP HCS HS0 HBN
      go_wp2_with fail
      generalize rv.getD kvZ = rk at *
      generalize ((((wr.setCell ⟨w.heap.size, 0, none⟩ (.string rk.1.user)).setCell ⟨w.heap.size, 1, none⟩ (.int .u64 (rk.1.seq : Int))).setCell ⟨w.heap.size, 2, none⟩ (.int .i64 rk.1.kind)).setCell ⟨w.heap.size, 3, none⟩ (.string rk.2)) = wz at HE ⊢
      have z0 := HE.out.2.cell 0
      have z1 := HE.out.2.cell 1
      have z2 := HE.out.2.cell 2
      have z3 := HE.out.2.cell 3
      simp only [List.getElem?_toArray, List.getElem?_cons_succ, List.getElem?_cons_zero] at z0 z1 z2 z3
      exact bodyPost_ret (v := .tuple #[.agg #[.string rk.1.user, .int .u64 (rk.1.seq : Int), .int .i64 rk.1.kind, .string rk.2], .bool rv.isSome]) (by simp [results, Try.results38, go_sem, z0, z1, z2, z3]) rfl HE.out.1
end
end Go.Proofs.Ytjoamhcehpjepab
/- What a view takes of a user: back. -/
namespace Go.Proofs.Ytjoamhcehpjepab
open Go.RowKit
set_option linter.unusedVariables false
set_option linter.unusedSimpArgs false
section
variable {T : Tl} {w : World} {R : Nat → Prop} {p : Nat} {L : List (List KV)} {s i j : Nat} {u : ByteArray}
set_option maxRecDepth 100000 in
set_option maxHeartbeats 4000000 in
theorem newest_back (h : MgV T w R p L (posV (allL L) i false)) (hcut : CutV s (allL L) i j) (h0 : 0 < i) (hil : i ≤ (allL L).length) (hu : ((allL L)[i - 1]'(by omega)).1.user = u) (hsq : T.sq = .int .u64 (s : Int)) (hwb : T.wb = .bool true) (hws : T.ws = .func (.func 29) #[] #[]) :
    Calls Try.prog 38 #[at_ p, .string u] w fun e w' => NewP T w R p L i s u false e w' := by
  have HS0 : Hid (SortU (allL L)) := all_sortU h.rise
  have HCP : Hid (∀ (W : World) (R' : Nat → Prop) (o : Option Nat), MgV T W R' p L o → W.cell? ⟨p, 5, none⟩ = some (.int .u64 (s : Int)) ∧ W.cell? ⟨p, 6, none⟩ = some (.bool true) ∧ W.cell? ⟨p, 7, none⟩ = some (.func (.func 29) #[] #[])) := fun W R' o hW => by
    obtain ⟨c5, c6, c7, _⟩ := hW.cells
    rw [hsq] at c5; rw [hwb] at c6; rw [hws] at c7
    exact ⟨c5, c6, c7⟩
  have HCS : Hid (∀ (W : World) (R' : Nat → Prop) (m : Nat), MgV T W R' p L (some m) → W.cell? ⟨p, 5, none⟩ = some (.int .u64 (s : Int)) ∧ W.cell? ⟨p, 6, none⟩ = some (.bool true) ∧ W.cell? ⟨p, 7, none⟩ = some (.func (.func 29) #[] #[])) := fun W R' m => HCP.out W R' _
  have HM : Hid (MgV T w R p L (posV (allL L) i false)) := h
  have HI : Hid (0 < i ∧ i ≤ (allL L).length ∧ (∀ h1 : i < (allL L).length, (allL L)[i].1.user ≠ u) ∧ ((allL L)[i - 1]'(by omega)).1.user = u) := ⟨h0, hil, fun h1 => by rw [← hu]; exact cut_hi hcut h1 h0, hu⟩
  clear h hcut hu hsq hwb hws
  have HAL : Hid (MgV T (w.alloc (.cells #[.string ⟨#[]⟩, .int .u64 0, .int .i64 0, .string ⟨#[]⟩] TKV)) R p L (posV (allL L) i false)) := mv_kept HM.out (by simp) fun k hk => Below.heap_alloc _ _ _ (mv_lt HM.out k hk)
  obtain ⟨e0, bb0, ht0⟩ : ∃ e0 bb0, told16 (allL L) (posV (allL L) i false) = (e0, bb0) := ⟨_, _, rfl⟩
  have HT0 : Hid (told16 (allL L) (posV (allL L) i false) = (e0, bb0)) := ht0
  have HAT0 := at17 HAL.out ht0
  clear ht0
  have HBN : Hid (∀ m (e : KV) bb, told16 (allL L) (posV (allL L) m false) = (e, bb) → bb = decide (0 < m)) := fun m e bb he => by
    by_cases hm : m = 0
    · have e1 : posV (allL L) m false = none := by unfold posV; rw [if_pos hm]
      rw [e1, told_none] at he
      cases he; simp [hm]
    · have e1 : posV (allL L) m false = some (m - 1) := by unfold posV; rw [if_neg hm]
      rw [e1] at he
      cases he; simp; omega
  go_enter Try.func38, Try.ntmps38
  go_wp2_with fail
  refine HAT0.mono ?_
  rintro _ v0 ⟨rfl, hp0⟩
  have HF0 : Hid (NewI T w (v0.alloc (.cells #[.string e0.1.user, .int .u64 (e0.1.seq : Int), .int .i64 e0.1.kind, .string e0.2] TKV)) R p L w.heap.size v0.heap.size (posV (allL L) i false) none) := NewI.begin hp0 HM.out (by rw [HT0.out])
  clear hp0 HAT0 HAL
  go_wp2_with fail
  go_loopw [5, 6, 7] (fun s5 s6 s7 wr => ∃ (m q : Nat), m ≤ i ∧ s5 = .bool (lget17 (segL (allL L) m i) u s).isSome ∧ s6 = at_ q ∧ s7 = .bool (decide (0 < m)) ∧ Hid (NewI T w wr R p L w.heap.size q (posV (allL L) m false) (lget17 (segL (allL L) m i) u s)) ∧ Hid (∀ k (hk : k < (allL L).length), m ≤ k → k < i → (allL L)[k].1.user = u)) (fun _ _ _ wr => farV (allL L).length false (posW L p wr))
  case atStart => exact ⟨i, v0.heap.size, Nat.le_refl _, by rw [seg_nil]; rfl, rfl, by rw [HBN.out _ _ _ HT0.out], by rw [seg_nil]; exact HF0.out, fun k hk h1 h2 => by omega⟩
  case round =>
    clear HF0 HT0
    obtain ⟨m, q, hmi, rfl, rfl, rfl, HN, HH⟩ := hrel
    obtain ⟨rv, hrv⟩ : ∃ rv, rv = lget17 (segL (allL L) m i) u s := ⟨_, rfl⟩
    rw [← hrv]
    have HRV : Hid (rv = lget17 (segL (allL L) m i) u s) := hrv
    rw [← hrv] at HN
    clear hrv
    have n0c := HN.out.bn.cell 0
    have n1c := HN.out.bn.cell 1
    have n2c := HN.out.bn.cell 2
    have n3c := HN.out.bn.cell 3
    have ns := HN.out.bn.soft
    simp only [List.getElem?_toArray, List.getElem?_cons_succ, List.getElem?_cons_zero] at n0c n1c n2c n3c
    by_cases hmm : 0 < m
    · have hpm : posV (allL L) m false = some (m - 1) := by unfold posV; rw [if_neg (by omega)]
      have hml : m - 1 < (allL L).length := by have := HI.out.2.1; omega
      have HPM : Hid (posV (allL L) m false = some (m - 1)) := hpm
      rw [hpm] at HN
      have hd1 : decide (0 < m) = true := decide_eq_true hmm
      rw [hd1]
      have HMM : Hid ((m - 1) < (allL L).length) := hml
      clear hpm hd1
      obtain ⟨E, hE⟩ : ∃ E, E = (allL L)[(m - 1)] := ⟨_, rfl⟩
      have HE0 : Hid (E = (allL L)[(m - 1)]'HMM.out) := hE
      have hbq := HN.out.bq
      have htm : told16 (allL L) (some (m - 1)) = (E, true) := by rw [hE]; exact told_some _
      rw [htm] at hbq
      clear htm
      have b0 := hbq.cell 0
      have b1 := hbq.cell 1
      have b2 := hbq.cell 2
      have b3 := hbq.cell 3
      simp only [List.getElem?_toArray, List.getElem?_cons_succ, List.getElem?_cons_zero] at b0 b1 b2 b3
      clear hE hbq
      by_cases hue : E.1.user = u
      · have HU : Hid (E.1.user = u) := hue
        obtain ⟨RN, hRN⟩ := HN.out.iv
        obtain ⟨c5, c6, c7⟩ := HCS.out wr RN _ hRN.it
        clear hRN
        have HPN : Hid (goP (allL L) 5 kvZ.1 (some (m - 1)) = posV (allL L) (m - 1) false) := by
          show (if m - 1 = 0 then none else some (m - 1 - 1)) = posV (allL L) (m - 1) false
          unfold posV
          rfl
        have HHM : Hid (∀ k (hk : k < (allL L).length), m - 1 ≤ k → k < i → (allL L)[k].1.user = u) := fun k hk h1 h2 => by
          by_cases e : k = (m - 1)
          · subst e; rw [← HE0.out]; exact HU.out
          · exact HH.out k hk (by omega) h2
        have HMS : Hid (farV (allL L).length false (posV (allL L) (m - 1) false) < farV (allL L).length false (some (m - 1))) := by
          show farV _ false (posV (allL L) (m - 1) false) < m - 1 + 1
          unfold posV
          by_cases h2 : m - 1 = 0
          · rw [if_pos h2]
            show 0 < _
            omega
          · rw [if_neg h2]
            show m - 1 - 1 + 1 < _
            omega
        have HM0 : posW L p wr = some (m - 1) := HN.out.pos
        have heq : (E.1.user.toList == u.toList) = true := by rw [hue]; simp
        have HLG : Hid (lget17 (segL (allL L) (m - 1) i) u s = if E.1.seq ≤ s then some E else rv) := by
          rw [HRV.out, HE0.out, lget_back (i := i) (m := m - 1) (by omega) HI.out.2.1 (by rw [← HE0.out]; exact HU.out), show m - 1 + 1 = m by omega]
          exact (rfl : _ = _)
        clear hue HH
        by_cases hsq : E.1.seq ≤ s
        · have hsI : ((E.1.seq : Int) ≤ (s : Int)) := by omega
          have HRN : Hid (lget17 (segL (allL L) (m - 1) i) u s = (some E)) := HLG.out.trans (by simp [hsq])
          clear HLG
          go_wp2_with fail
          go_quiet (fail)
          have HN1 : Hid (NewI T w (((((wr.drewN nq).setCell ⟨w.heap.size, 0, none⟩ (.string E.1.user)).setCell ⟨w.heap.size, 1, none⟩ (.int .u64 (E.1.seq : Int))).setCell ⟨w.heap.size, 2, none⟩ (.int .i64 E.1.kind)).setCell ⟨w.heap.size, 3, none⟩ (.string E.2)) R p L w.heap.size q (some (m - 1)) (some E)) := (HN.out.below (Below.drewM (Below.refl _ _) nq)).found E
          clear HN
          go_wp2_with fail
          generalize (((((wr.drewN nq).setCell ⟨w.heap.size, 0, none⟩ (.string E.1.user)).setCell ⟨w.heap.size, 1, none⟩ (.int .u64 (E.1.seq : Int))).setCell ⟨w.heap.size, 2, none⟩ (.int .i64 E.1.kind)).setCell ⟨w.heap.size, 3, none⟩ (.string E.2)) = W1 at HN1 ⊢
          obtain ⟨RJ, hJ⟩ := HN1.out.toJ
          have HJ : Hid (NewJ T w W1 R RJ p L w.heap.size q (some (m - 1)) (some E)) := hJ
          clear hJ HN1
          obtain ⟨_, _, d7⟩ := HCS.out W1 RJ (m - 1) HJ.out.iv.it
          clear c5 c6 c7 b0 b1 b2 b3 n0c n1c n2c n3c
          have HB0 : Hid (Below W1.heap.size W1 W1.drew) := (Below.refl _ _).drew
          have e7 : W1.drew.cell? ⟨p, 7, none⟩ = some (.func (.func 29) #[] #[]) := d7
          clear d7
          go_region_held3 (fun V => V.cell? ⟨p, 7, none⟩ = some (.func (.func 29) #[] #[])) (first | exact e7 | go_keep)
            (first
             | (go_at_call 29; refine (prev_v (HJ.out.below HB0.out).iv.it).mono ?_; rintro _ vs ⟨rfl, hps⟩
                obtain ⟨RS, hS⟩ := (HJ.out.below HB0.out).step hps
                have HS : Hid (NewJ T w vs R RS p L w.heap.size q (posV (allL L) (m - 1) false) (some E)) := by
                  rw [← HPN.out]; exact hS
                obtain ⟨_, _, e7⟩ := HCP.out vs RS _ HS.out.iv.it
                clear hps hS))
          clear e7 HB0 HJ
          obtain ⟨eo, hBE⟩ := HS.out.bq
          have f0 := hBE.cell 0
          have f1 := hBE.cell 1
          have f2 := hBE.cell 2
          have f3 := hBE.cell 3
          simp only [List.getElem?_toArray, List.getElem?_cons_succ, List.getElem?_cons_zero] at f0 f1 f2 f3
          clear hBE
          have HC2 : Hid (NewJ T w (vs.alloc (.cells #[.string eo.1.user, .int .u64 (eo.1.seq : Int), .int .i64 eo.1.kind, .string eo.2] TKV)) R RS p L w.heap.size vs.heap.size (posV (allL L) (m - 1) false) (some E)) := HS.out.copy eo
          clear HS
          obtain ⟨en, bn, htn⟩ : ∃ en bn, told16 (allL L) (posV (allL L) (m - 1) false) = (en, bn) := ⟨_, _, rfl⟩
          have HTN : Hid (told16 (allL L) (posV (allL L) (m - 1) false) = (en, bn)) := htn
          have HAT := at17 HC2.out.iv.it htn
          clear htn
          go_wp2_with fail
          refine HAT.mono ?_
          rintro _ va ⟨rfl, hpa⟩
          obtain ⟨RA, hA⟩ := HC2.out.step hpa
          have HA2 : Hid (NewJ T w va R RA p L w.heap.size vs.heap.size (posV (allL L) (m - 1) false) (some E)) := hA
          obtain ⟨ep, hEP⟩ := hA.bq
          have g0 := hEP.cell 0
          have g1 := hEP.cell 1
          have g2 := hEP.cell 2
          have g3 := hEP.cell 3
          simp only [List.getElem?_toArray, List.getElem?_cons_succ, List.getElem?_cons_zero] at g0 g1 g2 g3
          have gs := hEP.soft
          clear hEP hA hpa HC2 HAT f0 f1 f2 f3
          have HF : Hid (NewI T w ((((va.setCell ⟨vs.heap.size, 0, none⟩ (.string en.1.user)).setCell ⟨vs.heap.size, 1, none⟩ (.int .u64 (en.1.seq : Int))).setCell ⟨vs.heap.size, 2, none⟩ (.int .i64 en.1.kind)).setCell ⟨vs.heap.size, 3, none⟩ (.string en.2)) R p L w.heap.size vs.heap.size (posV (allL L) (m - 1) false) (some E)) := HA2.out.put (by rw [HTN.out])
          clear HA2
          go_wp2
          go_roundw
          case rel => exact ⟨m - 1, vs.heap.size, by omega, by rw [HRN.out] <;> rfl, rfl, by rw [HBN.out _ _ _ HTN.out], by rw [HRN.out]; exact HF.out, HHM.out⟩
          case measure =>
            rw [HF.out.pos, HM0]
            exact HMS.out
        · have hsI : ¬ ((E.1.seq : Int) ≤ (s : Int)) := by omega
          have HRN : Hid (lget17 (segL (allL L) (m - 1) i) u s = rv) := HLG.out.trans (by simp [hsq])
          clear HLG
          go_wp2_with fail
          go_quiet (fail)
          have HN1 : Hid (NewI T w (wr.drewN nq) R p L w.heap.size q (some (m - 1)) rv) := HN.out.below (Below.drewM (Below.refl _ _) nq)
          clear HN
          go_wp2_with fail
          generalize wr.drewN nq = W1 at HN1 ⊢
          obtain ⟨RJ, hJ⟩ := HN1.out.toJ
          have HJ : Hid (NewJ T w W1 R RJ p L w.heap.size q (some (m - 1)) rv) := hJ
          clear hJ HN1
          obtain ⟨_, _, d7⟩ := HCS.out W1 RJ (m - 1) HJ.out.iv.it
          clear c5 c6 c7 b0 b1 b2 b3 n0c n1c n2c n3c
          have HB0 : Hid (Below W1.heap.size W1 W1.drew) := (Below.refl _ _).drew
          have e7 : W1.drew.cell? ⟨p, 7, none⟩ = some (.func (.func 29) #[] #[]) := d7
          clear d7
          go_region_held3 (fun V => V.cell? ⟨p, 7, none⟩ = some (.func (.func 29) #[] #[])) (first | exact e7 | go_keep)
            (first
             | (go_at_call 29; refine (prev_v (HJ.out.below HB0.out).iv.it).mono ?_; rintro _ vs ⟨rfl, hps⟩
                obtain ⟨RS, hS⟩ := (HJ.out.below HB0.out).step hps
                have HS : Hid (NewJ T w vs R RS p L w.heap.size q (posV (allL L) (m - 1) false) rv) := by
                  rw [← HPN.out]; exact hS
                obtain ⟨_, _, e7⟩ := HCP.out vs RS _ HS.out.iv.it
                clear hps hS))
          clear e7 HB0 HJ
          obtain ⟨eo, hBE⟩ := HS.out.bq
          have f0 := hBE.cell 0
          have f1 := hBE.cell 1
          have f2 := hBE.cell 2
          have f3 := hBE.cell 3
          simp only [List.getElem?_toArray, List.getElem?_cons_succ, List.getElem?_cons_zero] at f0 f1 f2 f3
          clear hBE
          have HC2 : Hid (NewJ T w (vs.alloc (.cells #[.string eo.1.user, .int .u64 (eo.1.seq : Int), .int .i64 eo.1.kind, .string eo.2] TKV)) R RS p L w.heap.size vs.heap.size (posV (allL L) (m - 1) false) rv) := HS.out.copy eo
          clear HS
          obtain ⟨en, bn, htn⟩ : ∃ en bn, told16 (allL L) (posV (allL L) (m - 1) false) = (en, bn) := ⟨_, _, rfl⟩
          have HTN : Hid (told16 (allL L) (posV (allL L) (m - 1) false) = (en, bn)) := htn
          have HAT := at17 HC2.out.iv.it htn
          clear htn
          go_wp2_with fail
          refine HAT.mono ?_
          rintro _ va ⟨rfl, hpa⟩
          obtain ⟨RA, hA⟩ := HC2.out.step hpa
          have HA2 : Hid (NewJ T w va R RA p L w.heap.size vs.heap.size (posV (allL L) (m - 1) false) rv) := hA
          obtain ⟨ep, hEP⟩ := hA.bq
          have g0 := hEP.cell 0
          have g1 := hEP.cell 1
          have g2 := hEP.cell 2
          have g3 := hEP.cell 3
          simp only [List.getElem?_toArray, List.getElem?_cons_succ, List.getElem?_cons_zero] at g0 g1 g2 g3
          have gs := hEP.soft
          clear hEP hA hpa HC2 HAT f0 f1 f2 f3
          have HF : Hid (NewI T w ((((va.setCell ⟨vs.heap.size, 0, none⟩ (.string en.1.user)).setCell ⟨vs.heap.size, 1, none⟩ (.int .u64 (en.1.seq : Int))).setCell ⟨vs.heap.size, 2, none⟩ (.int .i64 en.1.kind)).setCell ⟨vs.heap.size, 3, none⟩ (.string en.2)) R p L w.heap.size vs.heap.size (posV (allL L) (m - 1) false) rv) := HA2.out.put (by rw [HTN.out])
          clear HA2
          go_wp2
          go_roundw
          case rel => exact ⟨m - 1, vs.heap.size, by omega, by rw [HRN.out] <;> rfl, rfl, by rw [HBN.out _ _ _ HTN.out], by rw [HRN.out]; exact HF.out, HHM.out⟩
          case measure =>
            rw [HF.out.pos, HM0]
            exact HMS.out
      · have heq : (E.1.user.toList == u.toList) = false := by
          rw [beq_eq_false_iff_ne]
          exact fun e => hue (ba_ext17 (by simpa [ByteArray.toList_eq] using e))
        have HG : Hid (GroupV (allL L) m i u) := by
          have hne : ((allL L)[m - 1]'HMM.out).1.user ≠ u := by rw [← HE0.out]; exact hue
          have him2 : m < i := by
            by_cases e : m = i
            · subst e; exact absurd HI.out.2.2.2 hne
            · omega
          exact group_of HS0.out him2 HI.out.2.1 (fun k hk h1 h2 => HH.out k hk h1 h2) (fun _ => hne) HI.out.2.2.1
        have HE : Hid (NewP T w R p L i s u false (.returned (.tuple #[.agg (kvA (rv.getD kvZ)), .bool rv.isSome])) ((((wr.setCell ⟨w.heap.size, 0, none⟩ (.string (rv.getD kvZ).1.user)).setCell ⟨w.heap.size, 1, none⟩ (.int .u64 ((rv.getD kvZ).1.seq : Int))).setCell ⟨w.heap.size, 2, none⟩ (.int .i64 (rv.getD kvZ).1.kind)).setCell ⟨w.heap.size, 3, none⟩ (.string (rv.getD kvZ).2)) ∧ Box ((((wr.setCell ⟨w.heap.size, 0, none⟩ (.string (rv.getD kvZ).1.user)).setCell ⟨w.heap.size, 1, none⟩ (.int .u64 ((rv.getD kvZ).1.seq : Int))).setCell ⟨w.heap.size, 2, none⟩ (.int .i64 (rv.getD kvZ).1.kind)).setCell ⟨w.heap.size, 3, none⟩ (.string (rv.getD kvZ).2)) w.heap.size TKV (kvA (rv.getD kvZ))) := by
          obtain ⟨h1, h2⟩ := HN.out.fin (e := rv.getD kvZ) rfl
          have hrg : rv = lget17 (allL L) u s := by rw [HRV.out]; exact (HG.out.get s).symm
          exact ⟨⟨m, HG.out, by rw [← hrg], (by rw [HPM.out]; exact h1)⟩, h2⟩
        clear hue
        clear HN HRV HG HH HI HPM HE0 HM HCP HCS HS0 HBN
        go_wp2_with fail
        generalize rv.getD kvZ = rk at *
        generalize ((((wr.setCell ⟨w.heap.size, 0, none⟩ (.string rk.1.user)).setCell ⟨w.heap.size, 1, none⟩ (.int .u64 (rk.1.seq : Int))).setCell ⟨w.heap.size, 2, none⟩ (.int .i64 rk.1.kind)).setCell ⟨w.heap.size, 3, none⟩ (.string rk.2)) = wz at HE ⊢
        have z0 := HE.out.2.cell 0
        have z1 := HE.out.2.cell 1
        have z2 := HE.out.2.cell 2
        have z3 := HE.out.2.cell 3
        simp only [List.getElem?_toArray, List.getElem?_cons_succ, List.getElem?_cons_zero] at z0 z1 z2 z3
        exact bodyPost_ret (v := .tuple #[.agg #[.string rk.1.user, .int .u64 (rk.1.seq : Int), .int .i64 rk.1.kind, .string rk.2], .bool rv.isSome]) (by simp [results, Try.results38, go_sem, z0, z1, z2, z3]) rfl HE.out.1
    · have hd1 : decide (0 < m) = false := decide_eq_false hmm
      rw [hd1]
      clear hd1
      have HG : Hid (GroupV (allL L) m i u) := group_of HS0.out (by omega) HI.out.2.1 (fun k hk h1 h2 => HH.out k hk h1 h2) (fun h1 => absurd h1 hmm) HI.out.2.2.1
      have HE : Hid (NewP T w R p L i s u false (.returned (.tuple #[.agg (kvA (rv.getD kvZ)), .bool rv.isSome])) ((((wr.setCell ⟨w.heap.size, 0, none⟩ (.string (rv.getD kvZ).1.user)).setCell ⟨w.heap.size, 1, none⟩ (.int .u64 ((rv.getD kvZ).1.seq : Int))).setCell ⟨w.heap.size, 2, none⟩ (.int .i64 (rv.getD kvZ).1.kind)).setCell ⟨w.heap.size, 3, none⟩ (.string (rv.getD kvZ).2)) ∧ Box ((((wr.setCell ⟨w.heap.size, 0, none⟩ (.string (rv.getD kvZ).1.user)).setCell ⟨w.heap.size, 1, none⟩ (.int .u64 ((rv.getD kvZ).1.seq : Int))).setCell ⟨w.heap.size, 2, none⟩ (.int .i64 (rv.getD kvZ).1.kind)).setCell ⟨w.heap.size, 3, none⟩ (.string (rv.getD kvZ).2)) w.heap.size TKV (kvA (rv.getD kvZ))) := by
        obtain ⟨h1, h2⟩ := HN.out.fin (e := rv.getD kvZ) rfl
        have hrg : rv = lget17 (allL L) u s := by rw [HRV.out]; exact (HG.out.get s).symm
        exact ⟨⟨m, HG.out, by rw [← hrg], h1⟩, h2⟩
      clear HN HRV HG HH HI HM HCP HCS HS0 HBN
      go_wp2_with fail
      generalize rv.getD kvZ = rk at *
      generalize ((((wr.setCell ⟨w.heap.size, 0, none⟩ (.string rk.1.user)).setCell ⟨w.heap.size, 1, none⟩ (.int .u64 (rk.1.seq : Int))).setCell ⟨w.heap.size, 2, none⟩ (.int .i64 rk.1.kind)).setCell ⟨w.heap.size, 3, none⟩ (.string rk.2)) = wz at HE ⊢
      have z0 := HE.out.2.cell 0
      have z1 := HE.out.2.cell 1
      have z2 := HE.out.2.cell 2
      have z3 := HE.out.2.cell 3
      simp only [List.getElem?_toArray, List.getElem?_cons_succ, List.getElem?_cons_zero] at z0 z1 z2 z3
      exact bodyPost_ret (v := .tuple #[.agg #[.string rk.1.user, .int .u64 (rk.1.seq : Int), .int .i64 rk.1.kind, .string rk.2], .bool rv.isSome]) (by simp [results, Try.results38, go_sem, z0, z1, z2, z3]) rfl HE.out.1
end
end Go.Proofs.Ytjoamhcehpjepab
/- A view's ways: the first key of a user, the way on. -/
namespace Go.Proofs.Ytjoamhcehpjepab
open Go.RowKit
set_option linter.unusedVariables false
set_option linter.unusedSimpArgs false
set_option maxRecDepth 100000 in
theorem firstk_any (u : ByteArray) (w : World) : Calls Try.prog 28 #[.string u] w fun e w' => e = .returned (keyV (firstK u)) ∧ Below w.heap.size w w' := by
  go_enter Try.func28, Try.ntmps28
  have HB : Hid (Below w.heap.size w (w.alloc (.cells #[.string u, .int .u64 18446744073709551615, .int .i64 9223372036854775807] 32))) := (Below.refl _ _).alloc (Nat.le_refl _) _
  go_wp2
  exact bodyPost_ret (v := .agg #[.string u, .int .u64 18446744073709551615, .int .i64 9223372036854775807]) (by simp [results, Try.results28, go_sem]) rfl ⟨rfl, HB.out⟩
abbrev TWay : TypeId := 56
set_option maxRecDepth 100000 in
theorem wayon_any (w : World) : Calls Try.prog 16 #[] w fun e w' => e = .returned (.agg #[.bool false, .func (.func 25) #[] #[], .func (.func 26) #[] #[]]) ∧ Below w.heap.size w w' := by
  have HB : Hid (Below w.heap.size w (w.alloc (.cells #[.bool false, .func (.func 25) #[] #[], .func (.func 26) #[] #[]] TWay))) := (Below.refl _ _).alloc (Nat.le_refl _) _
  go_enter Try.func16, Try.ntmps16
  go_wp2
  exact bodyPost_ret (v := .agg #[.bool false, .func (.func 25) #[] #[], .func (.func 26) #[] #[]]) (by simp [results, Try.results16, go_sem]) rfl ⟨rfl, HB.out⟩
set_option maxRecDepth 100000 in
theorem wayback_any (w : World) : Calls Try.prog 18 #[] w fun e w' => e = .returned (.agg #[.bool true, .func (.func 29) #[] #[], .func (.func 30) #[] #[]]) ∧ Below w.heap.size w w' := by
  have HB : Hid (Below w.heap.size w (w.alloc (.cells #[.bool true, .func (.func 29) #[] #[], .func (.func 30) #[] #[]] TWay))) := (Below.refl _ _).alloc (Nat.le_refl _) _
  go_enter Try.func18, Try.ntmps18
  go_wp2
  exact bodyPost_ret (v := .agg #[.bool true, .func (.func 29) #[] #[], .func (.func 30) #[] #[]]) (by simp [results, Try.results18, go_sem]) rfl ⟨rfl, HB.out⟩
set_option maxRecDepth 100000 in
theorem seen_any17 (p : Nat) (w : World) : Calls Try.prog 24 #[at_ p] w fun e w' => e = .returned (.func (.func 36) #[] #[at_ w.heap.size]) ∧ w' = w.alloc (.cells #[at_ p] 26) := by
  have hmf : ∀ (fn : Fn) (first cap : Array Value) (w : World), (Instr.makeFunc fn first cap).run Try.prog w = .ok (.func fn first cap) w := fun _ _ _ _ => rfl
  go_enter Try.func24, Try.ntmps24
  go_wp2
  go_ret
  exact ⟨rfl, rfl⟩
theorem cat17 (u : ByteArray) (hu : u.size ≤ 140737488351232) (W : World) : (binOp .add 9 (.string u) (.string ⟨#[0]⟩)).run Try.prog W = .ok (.string (zeroB u)) W := by
  have h : ¬ (((u.size + (⟨#[0]⟩ : ByteArray).size : Nat) : Int) > IntKind.i64.max) := by
    rw [show (⟨#[0]⟩ : ByteArray).size = 1 from rfl]
    simp [IntKind.max, IntKind.bits, IntKind.signed]
    omega
  show (Op.stringOp .add u ⟨#[0]⟩).run Try.prog W = _
  unfold Op.stringOp
  dsimp only
  rw [if_neg h]
  rfl
section
variable {T : Tl} {w : World} {R : Nat → Prop} {p : Nat} {L : List (List KV)} {o : Option Nat} {u : ByteArray}
set_option maxRecDepth 100000 in
set_option maxHeartbeats 2000000 in
theorem paston_any (h : MgV T w R p L o) (hu : u.size ≤ 140737488351232) : Calls Try.prog 26 #[at_ p, .string u] w fun e w' => e = .returned (.tuple #[]) ∧ MgPost (MgV T) R p L (normO (allL L) (seekI (allL L) (firstK (zeroB u)))) w w' := by
  have HM : Hid (MgV T w R p L o) := h
  have hcat := cat17 u hu
  clear h
  go_enter Try.func26, Try.ntmps26
  go_wp2_with fail
  refine (firstk_any (zeroB u) w).mono ?_
  rintro _ v1 ⟨rfl, hb1⟩
  have HI : Hid (IvS T w v1 R R p L o fun _ => False) := (IvS.start HM.out).below hb1
  clear hb1 hcat
  go_wp2_with fail
  refine (seek_v (firstK (zeroB u)) HI.out.it).mono ?_
  rintro _ v2 ⟨rfl, hp2⟩
  obtain ⟨R2, hi2, _⟩ := HI.out.step hp2
  have HF : Hid (MgPost (MgV T) R p L (normO (allL L) (seekI (allL L) (firstK (zeroB u)))) w v2) := hi2.post
  clear hp2 hi2
  go_wp2
  go_end0
  exact ⟨rfl, HF.out⟩
set_option maxRecDepth 100000 in
set_option maxHeartbeats 2000000 in
theorem pastback_any (h : MgV T w R p L o) (hi : seekI (allL L) (firstK u) < (allL L).length) : Calls Try.prog 30 #[at_ p, .string u] w fun e w' => e = .returned (.tuple #[]) ∧ MgPost (MgV T) R p L (posV (allL L) (seekI (allL L) (firstK u)) false) w w' := by
  have HM : Hid (MgV T w R p L o) := h
  have HE : Hid (goP (allL L) 5 kvZ.1 (goP (allL L) 3 (firstK u) o) = posV (allL L) (seekI (allL L) (firstK u)) false) := by
    show (normO (allL L) (seekI (allL L) (firstK u))).bind _ = _
    unfold normO
    rw [if_pos hi]
    rfl
  clear h hi
  go_enter Try.func30, Try.ntmps30
  go_wp2_with fail
  refine (firstk_any u w).mono ?_
  rintro _ v1 ⟨rfl, hb1⟩
  have HI : Hid (IvS T w v1 R R p L o fun _ => False) := (IvS.start HM.out).below hb1
  clear hb1
  go_wp2_with fail
  refine (seek_v (firstK u) HI.out.it).mono ?_
  rintro _ v2 ⟨rfl, hp2⟩
  obtain ⟨R2, hi2, _⟩ := HI.out.step hp2
  have HI2 : Hid (IvS T w v2 R R2 p L (goP (allL L) 3 (firstK u) o) fun _ => False) := hi2
  clear hp2 hi2
  go_wp2_with fail
  refine (prev_v HI2.out.it).mono ?_
  rintro _ v3 ⟨rfl, hp3⟩
  obtain ⟨R3, hi3, _⟩ := HI2.out.step hp3
  have HF : Hid (MgPost (MgV T) R p L (posV (allL L) (seekI (allL L) (firstK u)) false) w v3) := by
    rw [← HE.out]; exact hi3.post
  clear hp3 hi3
  go_wp2
  go_end0
  exact ⟨rfl, HF.out⟩
/-- What newest keeps, the two ways. -/
theorem newc_on : NewC (.func (.func 25) #[] #[]) true := fun T w R p L s i j m u h1 h2 h3 h4 h5 h6 hm hu => by
  have hi : i < (allL L).length := by
    apply Classical.byContradiction
    intro hn
    unfold posV normO at h6
    rw [if_neg hn] at h6
    cases h6
  have e : posV (allL L) i true = some i := by unfold posV normO; rw [if_pos hi]
  rw [e] at h6
  obtain rfl := Option.some.inj h6
  exact newest_on h4 h5 hi hu h3 h2 h1
theorem newc_back : NewC (.func (.func 29) #[] #[]) false := fun T w R p L s i j m u h1 h2 h3 h4 h5 h6 hm hu => by
  have hi : 0 < i := by
    apply Classical.byContradiction
    intro hn
    unfold posV at h6
    rw [if_pos (by omega)] at h6
    cases h6
  have e : posV (allL L) i false = some (i - 1) := by unfold posV; rw [if_neg (by omega)]
  rw [e] at h6
  obtain rfl := Option.some.inj h6
  exact newest_back h4 h5 hi h5.le hu h3 h2 h1
end
end Go.Proofs.Ytjoamhcehpjepab
/- A range over a function whose body is met once at most. -/
namespace Go.Proofs.Ytjoamhcehpjepab
open Go.RowKit
set_option linter.unusedVariables false
set_option linter.unusedSimpArgs false
variable {F : Fence} {n : Nat} {P : Program}
/-- The statement: its record and the block for deferred calls are laid, the function is called. -/
theorem range_once {g : Operand} {ps : Array Tmp} {assign body : Code} {Q : Exit → Act → World → Prop} {a : Act} {w : World} (hro : F.round = none) (h1 : 1 ≤ n) {gf : Nat} {lb : Array Value} (hg : a.eval g = .func (.func gf) #[] lb) (hFg : F.fn gf) (eg : ∀ args w, (callFunc gf args).run P w = .ok (.enter gf args) w)
    (h : ∀ (fn : Nat) (r : Loop), F.fn fn → r = { state := .ready, pending := none, fn, tmps := a.tmps, params := ps, assign, body, defers := w.heap.size } → CallsIn F (n - 1) P gf (#[.func (.yield (w.heap.size + 1)) #[] #[]] ++ lb) ((w.alloc (.deferred (some []))).alloc (.loop r)) (rangePost F n P (w.heap.size + 1) Q { a with defers := { target := .collected w.heap.size, args := #[] } :: a.defers })) :
    (Code.rangeFunc g ps assign body).wpIn F n P Q a w := by
  refine wpIn_rangeFunc ?_
  intro fn hfn
  rw [hro]
  have hc := h fn _ hfn rfl
  have he := run_enterLoop_outer (P := P) (w := w) fn a.tmps ps assign body
  obtain ⟨W1, hW1⟩ : ∃ W1, (w.alloc (.deferred (some []))).alloc (.loop { state := .ready, pending := none, fn, tmps := a.tmps, params := ps, assign, body, defers := w.heap.size }) = W1 := ⟨_, rfl⟩
  rw [hW1] at hc he
  refine ⟨w.heap.size + 1, [{ target := .collected w.heap.size, args := #[] }], W1, { target := .fn (.func gf) lb, args := #[.func (.yield (w.heap.size + 1)) #[] #[]] }, W1, gf,
    #[.func (.yield (w.heap.size + 1)) #[] #[]] ++ lb, W1, ?_, ?_, ?_, ?_, fun _ => h1, ?_⟩
  · exact he
  · unfold resolve
    dsimp only [rangeCall]
    rw [hg, show Array.map a.eval #[Operand.const (Value.func (Fn.yield (w.heap.size + 1)) #[] #[])] = #[Value.func (Fn.yield (w.heap.size + 1)) #[] #[]] from by rw [List.map_toArray]; rfl]
    simp only [Deferred.ofValue]
    show Result.ok _ _ = _
    congr 2
  · intro f' hf'; simp [Target.leads] at hf'; subst hf'; exact hFg
  · exact eg _ _
  · exact hc
/-- A round. -/
theorem yield_once {m l : Nat} {args : Array Value} {W W1 : World} {r : Loop} {R : Ending → World → Prop} (hfn : F.fn r.fn) (hl : W.heap[l]? = some (.loop r)) (hr : r.state = .ready) (hs : args.size = r.params.size) (a₁ : Act)
    (hassign : ∀ K : Act → World → Prop, K a₁ W1 → r.assign.wpIn (F.inRound l) m P (Exit.then K (fun _ _ _ => False)) { tmps := (r.params.zip args).foldl (fun tmps (t, a) => tmps.setIfInBounds t a) r.tmps, defers := [] } W)
    (hl1 : W1.heap[l]? = some (.loop r))
    (hbody : r.body.wpIn (F.inRound l) m P (roundPost P l R) a₁ (W1.putObj l (.loop { r with state := .busy }))) : YieldAt F m P l args W R :=
  ⟨_, _, _, _, run_yield hl hs, roundIn_of_wpIn hfn (hassign _ ⟨_, run_beginRound hl1 hr, hbody⟩)⟩
end Go.Proofs.Ytjoamhcehpjepab
