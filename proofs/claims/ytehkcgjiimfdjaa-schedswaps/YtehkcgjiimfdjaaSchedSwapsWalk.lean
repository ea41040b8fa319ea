/- SchedSwaps: the walk. -/
import Derived.Test.YtehkcgjiimfdjaaSwPlain
import Derived.Test.YtehkcgjiimfdjaaSchedApartWalk
namespace Go.Proofs.Ytehkcgjiimfdjaa
open Go.RowKit
theorem swC_wf : ∀ x ∈ swC, in64I x := by simp [swC, in64I, in64]
def sumTo (l : List (Nat × Int)) (k : Nat) : Int := ((l.take k).map fun e => e.2).sum
theorem sumTo_succ {l : List (Nat × Int)} {k : Nat} (h : k < l.length) : sumTo l (k + 1) = sumTo l k + (l.getD k (0, 0)).2 := by
  have e : l.take (k + 1) = l.take k ++ [l[k]] := by rw [List.take_add_one, List.getElem?_eq_getElem h]; rfl
  unfold sumTo
  rw [e, List.map_append, List.sum_append]
  simp [List.getD, h]
theorem sum_pos : ∀ {l : List (Nat × Int)}, (∀ e ∈ l, 0 ≤ e.2) → 0 ≤ (l.map fun e => e.2).sum
  | [], _ => by simp
  | e :: l, h => by
    have := sum_pos (l := l) fun x hx => h x (List.mem_cons_of_mem _ hx)
    have := h e (List.mem_cons_self ..)
    simp
    omega
theorem sumTo_le {l : List (Nat × Int)} (h : ∀ e ∈ l, 0 ≤ e.2) (k : Nat) : 0 ≤ sumTo l k ∧ sumTo l k ≤ (l.map fun e => e.2).sum := by
  have h1 : 0 ≤ ((l.take k).map fun e => e.2).sum := sum_pos fun e he => h e (List.mem_of_mem_take he)
  have h2 : 0 ≤ ((l.drop k).map fun e => e.2).sum := sum_pos fun e he => h e (List.mem_of_mem_drop he)
  have e : (l.map fun e => e.2).sum = ((l.take k).map fun e => e.2).sum + ((l.drop k).map fun e => e.2).sum := by
    rw [← List.sum_append, ← List.map_append, List.take_append_drop]
  unfold sumTo
  omega
set_option maxRecDepth 100000 in
set_option maxHeartbeats 1000000 in
theorem schedSwaps_walk (a0 : Int) (a1 : Option Addr) (len1 cap1 : Nat) (b1 : List Int) (w : World) (w0 : (Lit.int .i64 a0).wf = true) (w1 : IsAt w a1 len1 cap1 b1) (e1 : cap1 ≤ 17592186043904) :
    Calls Try.prog 7 #[.int .i64 a0, .slice a1 len1 cap1] w fun e w' => e = .returned (.bool true) ∧ Below w.heap.size w w' := by
  have H1 : Hid (IsAt w a1 len1 cap1 b1) := w1
  have hle1 := w1.le
  have hw0 : -9223372036854775808 ≤ a0 ∧ a0 ≤ 9223372036854775807 := by
    simp [Lit.wf, IntKind.min, IntKind.max, IntKind.bits, IntKind.signed] at w0
    omega
  obtain ⟨l0, u0⟩ := hw0
  clear w0 w1
  go_enter Try.func7, Try.ntmps7
  go_wp2_with fail
  refine (awake_any _).mono ?_
  rintro _ v1 ⟨rfl, hb1⟩
  have HB1 : Hid (Below w.heap.size w v1) := hb1
  clear hb1
  go_upto_if 19 with fail
  go_cut [0] (fun s wc => ∃ q : Nat, s = .int .i64 q ∧ q ≤ 9223372036854775807 ∧ wc = v1)
  case first =>
    by_cases hq : a0 < 0
    · obtain ⟨q, e⟩ : ∃ q : Nat, -(a0 + 1) = (q : Int) := ⟨(-(a0 + 1)).toNat, by omega⟩
      have HE : Hid (-(a0 + 1) = (q : Int)) := e
      clear e
      go_wp2_with fail
      go_meet
      exact ⟨q, by rw [HE.out], by have := HE.out; omega, rfl⟩
    · go_wp2_with fail
      go_meet
      exact ⟨a0.toNat, by rw [show ((a0.toNat : Nat) : Int) = a0 by omega], by omega, rfl⟩
  case rest =>
    obtain ⟨qa, rfl, hqa, rfl⟩ := hcut
    clear l0 u0
    rename World => x0
    obtain ⟨T, hT1, hT8, eT⟩ : ∃ T : Nat, 1 ≤ T ∧ T ≤ 8 ∧ (1 + (qa : Int) % 8) = (T : Int) := ⟨1 + qa % 8, by omega, by omega, by omega⟩
    have HET : Hid ((1 + (qa : Int) % 8) = (T : Int)) := eT
    clear eT
    have HX0 : Hid (IcAt (x0.alloc (.cells #[.int .i64 1, .int .i64 0, .int .i64 0, .int .i64 0, .int .i64 1, .int .i64 1, .int .i64 0, .int .i64 0, .int .i64 5, .int .i64 1, .int .i64 1, .int .i64 0, .int .i64 3, .int .i64 0, .int .i64 0, .int .i64 1, .int .i64 6, .int .i64 3, .int .i64 0, .int .i64 0, .int .i64 13, .int .i64 1, .int .i64 0, .int .i64 0] 37)) (some ⟨x0.heap.size, 0, none⟩) 6 6 swC) := IcAt.box (l := swC) (Box.new x0 _ _) (by unfold maxLen; decide) (fun j hj => swC_wf _ (getD_mem _ _ hj))
    go_wp2_with fail
    rw [HET.out]
    generalize hX1 : x0.alloc (.cells #[.int .i64 1, .int .i64 0, .int .i64 0, .int .i64 0, .int .i64 1, .int .i64 1, .int .i64 0, .int .i64 0, .int .i64 5, .int .i64 1, .int .i64 1, .int .i64 0, .int .i64 3, .int .i64 0, .int .i64 0, .int .i64 1, .int .i64 6, .int .i64 3, .int .i64 0, .int .i64 0, .int .i64 13, .int .i64 1, .int .i64 0, .int .i64 0] 37) = x1 at HX0 ⊢
    have HW1 : Hid (Below w.heap.size w x1) := by unfold Hid; rw [← hX1]; exact HB1.out.alloc HB1.out.size _
    have hs1 : w.heap.size ≤ x1.heap.size := HW1.out.size
    clear hX1 HET hqa HB1
    generalize x0.heap.size = ib at HX0 ⊢
    clear x0
    go_loopw [7, 8] (fun o i wz => ∃ (k c : Nat) (ao : Option Addr), k ≤ T ∧ i = .int .i64 (k : Int) ∧ o = .slice ao k c ∧ Hid (OwnC wz x1.heap.size ao k c (.slice (some ⟨ib, 0, none⟩) 6 6)) ∧ Hid (Below x1.heap.size x1 wz)) (fun _ i _ => T - (intOf i).toNat)
    case atStart => exact ⟨0, 0, none, Nat.zero_le _, rfl, rfl, OwnC.nil _ _ _, Below.refl _ _⟩
    case round =>
      obtain ⟨k, c, ao, hk, rfl, rfl, HO, HB⟩ := hrel
      by_cases hlt : k < T
      · have HSR : Hid ((wr.alloc (.cells #[.slice (some ⟨ib, 0, none⟩) 6 6] 38)).cell? ⟨wr.heap.size, 0, none⟩ = some (.slice (some ⟨ib, 0, none⟩) 6 6)) := by unfold Hid; simp
        have HA1 : Hid (∀ o : Obj, Below wr.heap.size wr (wr.alloc o)) := fun o => (Below.refl _ _).alloc (Nat.le_refl _) _
        have hsz := HB.out.size
        go_wp2_with (first | (at_builtin; refine wpList_appC _ rfl _ _ rfl x1.heap.size _ _ _ (.slice (some ⟨ib, 0, none⟩) 6 6) rfl (HO.out.below (HA1.out _)) rfl _ 1 rfl HSR.out (by omega) (by simp; omega) ?_))
        intro a' c' w' hO' hb' hg'
        have HO' : Hid (OwnC w' x1.heap.size a' (k + 1) c' (.slice (some ⟨ib, 0, none⟩) 6 6)) := hO'
        have HB' : Hid (Below x1.heap.size x1 w') := (HB.out.trans ((HA1.out _).mono hsz)).trans hb'
        clear hO' hb' hg'
        go_wp2
        go_roundw
        case rel => exact ⟨k + 1, c', a', by omega, by go_num, rfl, HO', HB'⟩
        case measure => simp [intOf]; omega
      · obtain rfl : k = T := by omega
        have HCD : Hid (CdAt wr ao k c (List.replicate k swC)) := HO.out.is (HX0.out.below (Nat.le_refl _) HB.out)
        have HW2 : Hid (Below w.heap.size w wr) := HW1.out.trans (HB.out.mono hs1)
        have HI : Hid (IsAt wr a1 len1 cap1 b1) := H1.out.below (Nat.le_refl _) HW2.out
        have HMD : Hid (OwnN (wr.alloc (.cells #[] 3)) wr.heap.size (some ⟨wr.heap.size, 0, none⟩) 0 0 []) := OwnN.made wr
        have HA1 : Hid (∀ o : Obj, Below wr.heap.size wr (wr.alloc o)) := fun o => (Below.refl _ _).alloc (Nat.le_refl _) _
        clear HO HB HX0 HW1 hs1 hlt
        rename World => x2
        go_wp2_with (first | (at_builtin; refine wpList_appN _ rfl _ _ rfl x2.heap.size _ _ _ [] rfl HMD.out a1 len1 cap1 b1 rfl (HI.out.below (Nat.le_refl _) (HA1.out _)) (by omega) (by simp) ?_))
        intro a' c' w' hO' hb' hg'
        have HO' : Hid (OwnN w' x2.heap.size a' len1 c' b1) := hO'
        have HB' : Hid (Below x2.heap.size x2 w') := (HA1.out _).trans hb'
        clear hO' hb' hg' HMD HA1 HI
        obtain ⟨K, hK1, hK2, eK⟩ : ∃ K : Nat, 10 * k ≤ K ∧ K ≤ 444 ∧ 6 * (k : Int) * (k : Int) + 60 = (K : Int) := by
          refine ⟨6 * k * k + 60, ?_, ?_, by simp⟩
          · rcases (by omega : k = 1 ∨ k = 2 ∨ k = 3 ∨ k = 4 ∨ k = 5 ∨ k = 6 ∨ k = 7 ∨ k = 8) with rfl | rfl | rfl | rfl | rfl | rfl | rfl | rfl <;> decide
          · rcases (by omega : k = 1 ∨ k = 2 ∨ k = 3 ∨ k = 4 ∨ k = 5 ∨ k = 6 ∨ k = 7 ∨ k = 8) with rfl | rfl | rfl | rfl | rfl | rfl | rfl | rfl <;> decide
        go_wp2_with fail
        go_loopw [9, 10] (fun o i wz => ∃ (m c3 : Nat) (a3 : Option Addr), m ≤ K ∧ i = .int .i64 (m : Int) ∧ o = .slice a3 (len1 + m) c3 ∧ Hid (OwnN wz x2.heap.size a3 (len1 + m) c3 (b1 ++ List.replicate m 0)) ∧ Hid (Below x2.heap.size x2 wz)) (fun _ i _ => K - (intOf i).toNat)
        case atStart => exact ⟨0, c', a', Nat.zero_le _, rfl, rfl, by have := HO'.out; unfold Hid; rwa [show List.replicate 0 (0 : Int) = [] from rfl, List.append_nil], HB'⟩
        case round =>
          obtain ⟨m, c3, a3, hm, rfl, rfl, HO, HB⟩ := hrel
          by_cases hlt3 : m < K
          · have HSR : Hid (IsAt (wr.alloc (.cells #[.int .i64 0] 3)) (some ⟨wr.heap.size, 0, none⟩) 1 1 [0]) := IsAt.one wr _ (by unfold in64; omega)
            have HA1 : Hid (∀ o : Obj, Below wr.heap.size wr (wr.alloc o)) := fun o => (Below.refl _ _).alloc (Nat.le_refl _) _
            have hsz := HB.out.size
            go_wp2_with (first | (at_builtin; refine wpList_appN _ rfl _ _ rfl x2.heap.size _ _ _ (b1 ++ List.replicate m 0) rfl (HO.out.below (HA1.out _)) _ 1 1 [0] rfl HSR.out (by omega) (by simp; omega) ?_))
            intro a4 c4 w4 hO4 hb4 hg4
            have HO4 : Hid (OwnN w4 x2.heap.size a4 (len1 + (m + 1)) c4 (b1 ++ List.replicate (m + 1) 0)) := by unfold Hid; rw [List.replicate_succ']; exact hO4
            have HB4 : Hid (Below x2.heap.size x2 w4) := (HB.out.trans ((HA1.out _).mono hsz)).trans hb4
            clear hO4 hb4 hg4
            go_wp2
            go_roundw
            case rel => exact ⟨m + 1, c4, a4, by omega, by go_num, rfl, HO4, HB4⟩
            case measure => simp [intOf]; omega
          · obtain rfl : m = K := by omega
            obtain ⟨N, HN⟩ : ∃ N, Hid (N = len1 + m) := ⟨_, rfl⟩
            have HO5 : Hid (OwnN wr x2.heap.size a3 N c3 (b1 ++ List.replicate m 0)) := by unfold Hid; rw [HN.out]; exact HO.out
            have HZ : Hid ((b1 ++ List.replicate m 0).length = N) := HO5.out.size
            have HNN : Hid (N ≤ 17592186044416) := by unfold Hid; rw [HN.out]; omega
            have HCr : Hid (CdAt wr ao k c (List.replicate k swC)) := HCD.out.below (Nat.le_refl _) HB.out
            have HWr : Hid (Below w.heap.size w wr) := HW2.out.trans (HB.out.mono HW2.out.size)
            obtain ⟨B, hrun, q1, q2, q3, q4, q5, q6⟩ := sw_all hT8 hK1 b1
            have HRUN : Hid ((begins (List.replicate k swC) []).run (b1 ++ List.replicate m 0) = B) := hrun
            clear hrun
            rw [← HN.out]
            go_wp2_with fail
            refine (srun_at ao k c _ none 0 0 [] a3 N c3 (b1 ++ List.replicate m 0) HCr.out (IsAt.nil _) HO5.out.is (by rw [HZ.out]; have := HNN.out; omega) (fun _ => by rw [HRUN.out, q2]; omega)).mono ?_
            rintro e v9 (⟨h, _⟩ | ⟨_, qc, ea, ec, sa, sc, rfl, R⟩)
            · rw [sw_ok hT8] at h
              cases h
            · rw [HRUN.out] at R
              rw [HRUN.out]
              have HR : Hid (Ran wr v9 B qc ea ec sa sc) := R
              have hc9 := R.cells
              have hs9 := R.states
              have hb9 := R.base
              rw [q1] at hc9
              rw [q4, q5] at hs9
              have HEM : Hid (∀ j, j < k → ∃ fr, ea = some ⟨fr, 0, none⟩ ∧ v9.cell? ⟨fr, j * 2 + 1, none⟩ = some (.int .i64 (B.em.getD j (0, 0)).2) ∧ k ≤ ec ∧ ec ≤ maxLen ∧ fr < v9.heap.size) := fun j hj => by
                obtain ⟨fr, e1, p0, p1, h1, h2, h3⟩ := R.emitAt (j := j) (by rw [q2]; exact hj)
                rw [q2] at h1
                exact ⟨fr, e1, p1, h1, h2, h3⟩
              obtain ⟨sle, smx, _, hsa⟩ := row_addr hs9
              obtain ⟨sb, rfl⟩ := hsa (by omega)
              have HST : Hid (∀ j, j < k → v9.cell? ⟨sb, j, none⟩ = some (.int .i64 2)) := fun j hj => by
                rw [hs9.cellAt j (by omega)]
                simp [hj]
              have hsl := tag_lt (row_tag hs9 rfl)
              have d0 := hc9.cell 0
              have hql := hc9.lt
              simp at d0
              unfold maxLen at smx
              have HW9 : Hid (Below w.heap.size w v9) := HWr.out.trans (hb9.mono HWr.out.size)
              rw [q2, q5]
              have HS3 : Hid (2 * (B.em.map fun e => e.2).sum = (k : Int) * ((k : Int) + 1)) := q3
              have HQ6 : Hid (∀ e ∈ B.em, 0 ≤ e.2) := q6
              have HQ2 : Hid (B.em.length = k) := q2
              clear R hc9 hs9 hb9 q1 q2 q3 q4 q5 q6 HR
              generalize B.steps = st
              go_wp2_with fail
              generalize hV : v9.alloc (.cells #[.slice (some ⟨qc, 0, none⟩) 16 16, .slice ea k ec, .slice (some ⟨sb, 0, none⟩) k sc, .int .i64 (st : Int)] 27) = V
              have hbV : Below v9.heap.size v9 V := by rw [← hV]; exact (Below.refl _ _).alloc (Nat.le_refl _) _
              have hxV : Box V v9.heap.size 27 #[.slice (some ⟨qc, 0, none⟩) 16 16, .slice ea k ec, .slice (some ⟨sb, 0, none⟩) k sc, .int .i64 (st : Int)] := by rw [← hV]; exact Box.new v9 _ _
              have z0 := hxV.cell 0
              have z1 := hxV.cell 1
              have z2 := hxV.cell 2
              simp at z0 z1 z2
              have y0 : V.cell? ⟨qc, 0, none⟩ = some (.int .i64 (k : Int)) := (hbV.cell (p := ⟨qc, 0, none⟩) hql).trans d0
              have HWV : Hid (Below w.heap.size w V) := HW9.out.trans (hbV.mono HW9.out.size)
              have HSTV : Hid (∀ j, j < k → V.cell? ⟨sb, j, none⟩ = some (.int .i64 2)) := fun j hj => (hbV.cell (p := ⟨sb, j, none⟩) hsl).trans (HST.out j hj)
              have HEMV : Hid (∀ j, j < k → ∃ fr, ea = some ⟨fr, 0, none⟩ ∧ V.cell? ⟨fr, j * 2 + 1, none⟩ = some (.int .i64 (B.em.getD j (0, 0)).2)) := fun j hj => by
                obtain ⟨fr, h1, h2, _, _, h5⟩ := HEM.out j hj
                exact ⟨fr, h1, (hbV.cell (p := ⟨fr, j * 2 + 1, none⟩) h5).trans h2⟩
              have hec : k ≤ ec ∧ ec ≤ 9223372036854775807 := by
                obtain ⟨_, _, _, h1, h2, _⟩ := HEM.out 0 (by omega)
                unfold maxLen at h2
                exact ⟨h1, h2⟩
              obtain ⟨hec1, hec2⟩ := hec
              generalize v9.heap.size = rb at z0 z1 z2 ⊢
              clear hV hbV hxV HEM HST d0 hsl hql HW9
              go_loopw [13, 14] (fun o i wz => ∃ j : Nat, j ≤ k ∧ i = .int .i64 (j : Int) ∧ o = .int .i64 (j : Int) ∧ wz = V) (fun _ i _ => k - (intOf i).toNat)
              case atStart => exact ⟨0, Nat.zero_le _, rfl, rfl, rfl⟩
              case round =>
                obtain ⟨j, hj, rfl, rfl, rfl⟩ := hrel
                by_cases hjk : j < k
                · have t1 := HSTV.out j hjk
                  go_wp2
                  go_roundw
                  case rel => exact ⟨j + 1, by omega, by go_num, by go_num, trivial⟩
                  case measure => simp [intOf]; omega
                · obtain rfl : j = k := by omega
                  go_wp2_with fail
                  have hS := HS3.out
                  have hpos := fun i => sumTo_le HQ6.out i
                  have HSUM : Hid (∀ i, 0 ≤ sumTo B.em i ∧ sumTo B.em i ≤ 36) := fun i => by
                    have h1 := hpos i
                    have h2 : (j : Int) * ((j : Int) + 1) ≤ 72 := by
                      rcases (by omega : j = 1 ∨ j = 2 ∨ j = 3 ∨ j = 4 ∨ j = 5 ∨ j = 6 ∨ j = 7 ∨ j = 8) with rfl | rfl | rfl | rfl | rfl | rfl | rfl | rfl <;> decide
                    omega
                  have HTOT : Hid (2 * sumTo B.em j = (j : Int) * ((j : Int) + 1)) := by
                    unfold Hid sumTo
                    rw [← hS, List.take_of_length_le (by rw [HQ2.out]; omega)]
                  clear hS hpos hjk
                  go_loopw [15, 16] (fun o i wz => ∃ n : Nat, n ≤ j ∧ i = .int .i64 (n : Int) ∧ o = .int .i64 (sumTo B.em n) ∧ wz = wr) (fun _ i _ => j - (intOf i).toNat)
                  case atStart => exact ⟨0, Nat.zero_le _, rfl, rfl, rfl⟩
                  case round =>
                    obtain ⟨n, hn, rfl, rfl, rfl⟩ := hrel
                    by_cases hnj : n < j
                    · obtain ⟨fr, rfl, t1⟩ := HEMV.out n hnj
                      have h1 := HSUM.out n
                      have h2 := HSUM.out (n + 1)
                      have HNX : Hid (sumTo B.em (n + 1) = sumTo B.em n + (B.em.getD n (0, 0)).2) := sumTo_succ (by rw [HQ2.out]; exact hnj)
                      rw [HNX.out] at h2
                      generalize (B.em.getD n (0, 0)).2 = y at t1 h2 HNX
                      generalize sumTo B.em n = x at h1 h2 HNX ⊢
                      obtain ⟨h11, h12⟩ := h1
                      obtain ⟨h21, h22⟩ := h2
                      go_wp2
                      go_roundw
                      case rel => exact ⟨n + 1, by omega, by go_num, by rw [HNX.out], trivial⟩
                      case measure => simp [intOf]; omega
                    · obtain rfl : n = j := by omega
                      have h1 := HSUM.out n
                      have h2 := HTOT.out
                      generalize sumTo B.em n = x at h1 h2 ⊢
                      obtain ⟨h11, h12⟩ := h1
                      have h3 : ((n : Int) * ((n : Int) + 1)).tdiv 2 = x := by rw [← h2]; exact Int.mul_tdiv_cancel_left x (by decide)
                      have h4 : 0 ≤ (n : Int) * ((n : Int) + 1) := by omega
                      have h5 : (n : Int) * ((n : Int) + 1) ≤ 72 := by omega
                      go_wp2
                      go_returns
                      exact ⟨rfl, HWV.out⟩
end Go.Proofs.Ytehkcgjiimfdjaa
