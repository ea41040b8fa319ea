/- SchedLocks: the walk. -/
import Derived.Test.YtehkcgjiimfdjaaLkPlain
import Derived.Test.YtehkcgjiimfdjaaApp6
import Derived.Test.YtehkcgjiimfdjaaSchedApartWalk
namespace Go.Proofs.Ytehkcgjiimfdjaa
open Go.RowKit
theorem lkC_wf {r : Nat} (hr : r ≤ 9) : ∀ x ∈ lkC r, in64I x := by
  simp [lkC, in64I, in64]
  omega
def lkC0 (r : Nat) : List Ins := [⟨4, 1, (r : Int), 0⟩, ⟨8, 0, 0, 0⟩]
def lkC2 : List Ins := [⟨9, 0, 0, 0⟩, ⟨5, 1, -1, 0⟩, ⟨6, 1, 9, 0⟩, ⟨7, 0, 1, 0⟩, ⟨14, 0, 0, 0⟩]
theorem lkC0_wf {r : Nat} (hr : r ≤ 9) : ∀ x ∈ lkC0 r, in64I x := by
  simp [lkC0, in64I, in64]
  omega
theorem lkC2_wf : ∀ x ∈ lkC2, in64I x := by simp [lkC2, in64I, in64]
theorem cnt_in : ∀ x ∈ cnt, in64I x := by simp [cnt, in64I, in64]
theorem OwnI.lit {w : World} {b B : Nat} {l : List Ins} (h : Box w b 37 (insL l).toArray) (hB : B ≤ b) (hm : l.length ≤ maxLen) (hw : ∀ x ∈ l, in64I x) : OwnI w B (some ⟨b, 0, none⟩) l.length l.length l :=
  ⟨rfl, ⟨insL_len l, .inr ⟨b, l.length, (insL l).toArray, rfl, hB, h, Nat.le_refl _, hm, by simp [insL_len], by rw [← insL_len]; simp⟩⟩, hw⟩
set_option maxRecDepth 100000 in
set_option maxHeartbeats 1000000 in
theorem schedLocks_walk (a0 : Int) (a1 : Int) (a2 : Option Addr) (len2 cap2 : Nat) (b2 : List Int) (w : World) (w0 : (Lit.int .i64 a0).wf = true) (w1 : (Lit.int .i64 a1).wf = true) (w2 : IsAt w a2 len2 cap2 b2) (e2 : cap2 ≤ 17592186043904) :
    Calls Try.prog 6 #[.int .i64 a0, .int .i64 a1, .slice a2 len2 cap2] w fun e w' => e = .returned (.bool true) ∧ Below w.heap.size w w' := by
  have H2 : Hid (IsAt w a2 len2 cap2 b2) := w2
  have hle2 := w2.le
  have hw0 : -9223372036854775808 ≤ a0 ∧ a0 ≤ 9223372036854775807 := by
    simp [Lit.wf, IntKind.min, IntKind.max, IntKind.bits, IntKind.signed] at w0
    omega
  have hw1 : -9223372036854775808 ≤ a1 ∧ a1 ≤ 9223372036854775807 := by
    simp [Lit.wf, IntKind.min, IntKind.max, IntKind.bits, IntKind.signed] at w1
    omega
  obtain ⟨l0, u0⟩ := hw0
  obtain ⟨l1, u1⟩ := hw1
  clear w0 w1 w2
  go_enter Try.func6, Try.ntmps6
  go_wp2_with fail
  refine (awake_any _).mono ?_
  rintro _ v1 ⟨rfl, hb1⟩
  have HB1 : Hid (Below w.heap.size w v1) := hb1
  clear hb1
  go_upto_if 18 with fail
  go_cut [0] (fun s wc => ∃ q : Nat, s = .int .i64 q ∧ q ≤ 9223372036854775807 ∧ wc = v1)
  case first =>
    by_cases hq : a0 < 0
    · obtain ⟨q, e⟩ : ∃ q : Nat, -(a0 + 1) = (q : Int) := ⟨(-(a0 + 1)).toNat, by omega⟩
      have HE : Hid (-(a0 + 1) = (q : Int)) := e
      clear e
      go_wp2_with fail
      go_meet
      exact ⟨q, by rw [HE.out], by have := HE.out; omega, rfl⟩
    · go_wp2_with fail
      go_meet
      exact ⟨a0.toNat, by rw [show ((a0.toNat : Nat) : Int) = a0 by omega], by omega, rfl⟩
  case rest =>
    obtain ⟨qa, rfl, hqa, rfl⟩ := hcut
    clear l0 u0
    go_upto_if 23 with fail
    go_cut [1] (fun s wz => ∃ q : Nat, s = .int .i64 q ∧ q ≤ 9223372036854775807 ∧ wz = wc)
    case first =>
      by_cases hq : a1 < 0
      · obtain ⟨q, e⟩ : ∃ q : Nat, -(a1 + 1) = (q : Int) := ⟨(-(a1 + 1)).toNat, by omega⟩
        have HE : Hid (-(a1 + 1) = (q : Int)) := e
        clear e
        go_wp2_with fail
        go_meet
        exact ⟨q, by rw [HE.out], by have := HE.out; omega, rfl⟩
      · go_wp2_with fail
        go_meet
        exact ⟨a1.toNat, by rw [show ((a1.toNat : Nat) : Int) = a1 by omega], by omega, rfl⟩
    case rest =>
      obtain ⟨qb, rfl, hqb, rfl⟩ := hcut
      clear l1 u1
      rename World => x0
      obtain ⟨T, hT1, hT8, eT⟩ : ∃ T : Nat, 1 ≤ T ∧ T ≤ 8 ∧ (1 + (qa : Int) % 8) = (T : Int) := ⟨1 + qa % 8, by omega, by omega, by omega⟩
      obtain ⟨R, hR1, hR9, eR⟩ : ∃ R : Nat, 1 ≤ R ∧ R ≤ 9 ∧ (1 + (qb : Int) % 9) = (R : Int) := ⟨1 + qb % 9, by omega, by omega, by omega⟩
      have HET : Hid ((1 + (qa : Int) % 8) = (T : Int)) := eT
      have HER : Hid ((1 + (qb : Int) % 9) = (R : Int)) := eR
      clear eT eR
      have HX0 : Hid (OwnI (x0.alloc (.cells #[.int .i64 4, .int .i64 1, .int .i64 (R : Int), .int .i64 0, .int .i64 8, .int .i64 0, .int .i64 0, .int .i64 0] 37)) w.heap.size (some ⟨x0.heap.size, 0, none⟩) 2 2 (lkC0 R)) := OwnI.lit (l := lkC0 R) (Box.new x0 _ _) HB1.out.size (by unfold maxLen lkC0; simp) (lkC0_wf hR9)
      go_wp2_with fail
      rw [HET.out, HER.out]
      generalize hX1 : x0.alloc (.cells #[.int .i64 4, .int .i64 1, .int .i64 (R : Int), .int .i64 0, .int .i64 8, .int .i64 0, .int .i64 0, .int .i64 0] 37) = x1 at HX0 ⊢
      have HW1 : Hid (Below w.heap.size w x1) := by unfold Hid; rw [← hX1]; exact HB1.out.alloc HB1.out.size _
      clear hX1 HET HER hqa hqb HB1
      generalize x0.heap.size = ib at HX0 ⊢
      clear x0
      refine (counts_any _).mono ?_
      rintro _ x2 ⟨rfl, hb2, hx2⟩
      have HX2 : Hid (OwnI x2 w.heap.size (some ⟨ib, 0, none⟩) 2 2 (lkC0 R)) := HX0.out.below hb2
      have HC2 : Hid (Box x2 x1.heap.size 37 (insL cnt).toArray) := hx2
      have HW2 : Hid (Below w.heap.size w x2) := HW1.out.trans (hb2.mono HW1.out.size)
      clear hb2 hx2 HX0 HW1
      go_wp2_with (first | (at_builtin; refine wpList_appI _ rfl _ _ rfl w.heap.size _ _ _ (lkC0 R) rfl HX2.out _ 3 3 cnt rfl HC2.out rfl cnt_in (by omega) HW2.out.size ?_))
      intro a3 c3 x3 hO3 hb3 hg3
      have HO3 : Hid (OwnI x3 w.heap.size a3 5 c3 (lkC0 R ++ cnt)) := hO3
      have HW3 : Hid (Below w.heap.size w x3) := HW2.out.trans hb3
      clear hO3 hb3 hg3 HX2 HC2 HW2
      have HBX : Hid (Box (x3.alloc (.cells #[.int .i64 9, .int .i64 0, .int .i64 0, .int .i64 0, .int .i64 5, .int .i64 1, .int .i64 (-1), .int .i64 0, .int .i64 6, .int .i64 1, .int .i64 9, .int .i64 0, .int .i64 7, .int .i64 0, .int .i64 1, .int .i64 0, .int .i64 14, .int .i64 0, .int .i64 0, .int .i64 0] 37)) x3.heap.size 37 (insL lkC2).toArray) := Box.new x3 _ _
      have HA3 : Hid (∀ o : Obj, Below x3.heap.size x3 (x3.alloc o)) := fun o => (Below.refl _ _).alloc (Nat.le_refl _) _
      have hs3 := HW3.out.size
      go_wp2_with (first | (at_builtin; refine wpList_appI _ rfl _ _ rfl w.heap.size _ _ _ (lkC0 R ++ cnt) rfl (HO3.out.below (HA3.out _)) _ 5 5 lkC2 rfl HBX.out rfl lkC2_wf (by omega) (by simp; omega) ?_))
      intro a4 c4 x4 hO4 hb4 hg4
      have HO4 : Hid (IcAt x4 a4 10 c4 (lkC R)) := hO4.is
      have HW4 : Hid (Below w.heap.size w x4) := (HW3.out.trans ((HA3.out _).mono hs3)).trans hb4
      have hs4 : w.heap.size ≤ x4.heap.size := HW4.out.size
      clear hO4 hb4 hg4 HO3 HW3 HBX HA3 hs3
      go_wp2_with fail
      go_loopw [9, 10] (fun o i wz => ∃ (k c : Nat) (ao : Option Addr), k ≤ T ∧ i = .int .i64 (k : Int) ∧ o = .slice ao k c ∧ Hid (OwnC wz x4.heap.size ao k c (.slice a4 10 c4)) ∧ Hid (Below x4.heap.size x4 wz)) (fun _ i _ => T - (intOf i).toNat)
      case atStart => exact ⟨0, 0, none, Nat.zero_le _, rfl, rfl, OwnC.nil _ _ _, Below.refl _ _⟩
      case round =>
        obtain ⟨k, c, ao, hk, rfl, rfl, HO, HB⟩ := hrel
        by_cases hlt : k < T
        · have HSR : Hid ((wr.alloc (.cells #[.slice a4 10 c4] 38)).cell? ⟨wr.heap.size, 0, none⟩ = some (.slice a4 10 c4)) := by unfold Hid; simp
          have HA1 : Hid (∀ o : Obj, Below wr.heap.size wr (wr.alloc o)) := fun o => (Below.refl _ _).alloc (Nat.le_refl _) _
          have hsz := HB.out.size
          go_wp2_with (first | (at_builtin; refine wpList_appC _ rfl _ _ rfl x4.heap.size _ _ _ (.slice a4 10 c4) rfl (HO.out.below (HA1.out _)) rfl _ 1 rfl HSR.out (by omega) (by simp; omega) ?_))
          intro a' c' w' hO' hb' hg'
          have HO' : Hid (OwnC w' x4.heap.size a' (k + 1) c' (.slice a4 10 c4)) := hO'
          have HB' : Hid (Below x4.heap.size x4 w') := (HB.out.trans ((HA1.out _).mono hsz)).trans hb'
          clear hO' hb' hg'
          go_wp2
          go_roundw
          case rel => exact ⟨k + 1, c', a', by omega, by go_num, rfl, HO', HB'⟩
          case measure => simp [intOf]; omega
        · obtain rfl : k = T := by omega
          have HCD : Hid (CdAt wr ao k c (List.replicate k (lkC R))) := HO.out.is (HO4.out.below (Nat.le_refl _) HB.out)
          have HW5 : Hid (Below w.heap.size w wr) := HW4.out.trans (HB.out.mono hs4)
          have HI : Hid (IsAt wr a2 len2 cap2 b2) := H2.out.below (Nat.le_refl _) HW5.out
          have HMD : Hid (OwnN (wr.alloc (.cells #[] 3)) wr.heap.size (some ⟨wr.heap.size, 0, none⟩) 0 0 []) := OwnN.made wr
          have HA1 : Hid (∀ o : Obj, Below wr.heap.size wr (wr.alloc o)) := fun o => (Below.refl _ _).alloc (Nat.le_refl _) _
          clear HO HB HO4 HW4 hs4 hlt
          rename World => x5
          go_wp2_with (first | (at_builtin; refine wpList_appN _ rfl _ _ rfl x5.heap.size _ _ _ [] rfl HMD.out a2 len2 cap2 b2 rfl (HI.out.below (Nat.le_refl _) (HA1.out _)) (by omega) (by simp) ?_))
          intro a' c' w' hO' hb' hg'
          have HO' : Hid (OwnN w' x5.heap.size a' len2 c' b2) := hO'
          have HB' : Hid (Below x5.heap.size x5 w') := (HA1.out _).trans hb'
          clear hO' hb' hg' HMD HA1 HI
          go_wp2_with fail
          go_loopw [11, 12] (fun o i wz => ∃ (m c3 : Nat) (a3 : Option Addr), m ≤ 700 ∧ i = .int .i64 (m : Int) ∧ o = .slice a3 (len2 + m) c3 ∧ Hid (OwnN wz x5.heap.size a3 (len2 + m) c3 (b2 ++ upN m)) ∧ Hid (Below x5.heap.size x5 wz)) (fun _ i _ => 700 - (intOf i).toNat)
          case atStart => exact ⟨0, c', a', Nat.zero_le _, rfl, rfl, by have := HO'.out; unfold Hid; rwa [show upN 0 = [] from rfl, List.append_nil], HB'⟩
          case round =>
            obtain ⟨m, c3, a3, hm, rfl, rfl, HO, HB⟩ := hrel
            by_cases hlt3 : m < 700
            · have HSR : Hid (IsAt (wr.alloc (.cells #[.int .i64 (m : Int)] 3)) (some ⟨wr.heap.size, 0, none⟩) 1 1 [(m : Int)]) := IsAt.one wr _ (by unfold in64; omega)
              have HA1 : Hid (∀ o : Obj, Below wr.heap.size wr (wr.alloc o)) := fun o => (Below.refl _ _).alloc (Nat.le_refl _) _
              have hsz := HB.out.size
              go_wp2_with (first | (at_builtin; refine wpList_appNFit _ rfl _ _ rfl x5.heap.size _ _ _ (b2 ++ upN m) rfl (HO.out.below (HA1.out _)) _ 1 1 [(m : Int)] rfl HSR.out (by omega) (by omega) (by simp; omega) ?_))
              intro a6 c6 w6 hO6 hb6
              have HO6 : Hid (OwnN w6 x5.heap.size a6 (len2 + (m + 1)) c6 (b2 ++ upN (m + 1))) := by unfold Hid; rw [upN_succ]; exact hO6
              have HB6 : Hid (Below x5.heap.size x5 w6) := (HB.out.trans ((HA1.out _).mono hsz)).trans hb6
              clear hO6 hb6
              go_wp2
              go_roundw
              case rel => exact ⟨m + 1, c6, a6, by omega, by go_num, rfl, HO6, HB6⟩
              case measure => simp [intOf]; omega
            · obtain rfl : m = 700 := by omega
              obtain ⟨N, HN⟩ : ∃ N, Hid (N = len2 + 700) := ⟨_, rfl⟩
              have HO7 : Hid (OwnN wr x5.heap.size a3 N c3 (b2 ++ upN 700)) := by unfold Hid; rw [HN.out]; exact HO.out
              have HZ : Hid ((b2 ++ upN 700).length = N) := HO7.out.size
              have HNN : Hid (N ≤ 17592186044616 ∧ 700 ≤ N) := by unfold Hid; rw [HN.out]; omega
              have HCr : Hid (CdAt wr ao k c (List.replicate k (lkC R))) := HCD.out.below (Nat.le_refl _) HB.out
              have HWr : Hid (Below w.heap.size w wr) := HW5.out.trans (HB.out.mono HW5.out.size)
              obtain ⟨B, hrun, q1, q2, q3, q4, q5⟩ := lk_all (n := k) (by omega : 0 < R) hR9 hT8 (l := b2 ++ upN 700) (by rw [HZ.out]; exact HNN.out.2)
              have HRUN : Hid ((begins (List.replicate k (lkC R)) []).run (b2 ++ upN 700) = B) := hrun
              clear hrun
              rw [← HN.out]
              go_wp2_with fail
              refine (srun_at ao k c _ none 0 0 [] a3 N c3 (b2 ++ upN 700) HCr.out (IsAt.nil _) HO7.out.is (by rw [HZ.out]; have := HNN.out; omega) (fun _ => by rw [HRUN.out, q3]; decide)).mono ?_
              rintro e v9 (⟨h, _⟩ | ⟨_, qc, ea, ec, sa, sc, rfl, RA⟩)
              · rw [lk_ok hT8] at h
                cases h
              · rw [HRUN.out] at RA
                rw [HRUN.out]
                have hc9 := RA.cells
                have hs9 := RA.states
                have hb9 := RA.base
                rw [q1] at hc9
                rw [q4, q5] at hs9
                obtain ⟨sle, smx, _, hsa⟩ := row_addr hs9
                obtain ⟨sb, rfl⟩ := hsa (by omega)
                have HST : Hid (∀ j, j < k → v9.cell? ⟨sb, j, none⟩ = some (.int .i64 2)) := fun j hj => by
                  rw [hs9.cellAt j (by omega)]
                  simp [hj]
                have hsl := tag_lt (row_tag hs9 rfl)
                have d0 := hc9.cell 0
                have hql := hc9.lt
                simp at d0
                unfold maxLen at smx
                have HW9 : Hid (Below w.heap.size w v9) := HWr.out.trans (hb9.mono HWr.out.size)
                rw [q2, q5]
                have e8 : ((k * (8 * R + 1) : Nat) : Int) = (k : Int) * (1 + 8 * (R : Int)) := by simp [Int.add_comm]
                rw [e8]
                clear RA hc9 hs9 hb9 q1 q2 q3 q4 q5 e8
                have m1 : 0 ≤ (k : Int) * (R : Int) := Int.mul_nonneg (by omega) (by omega)
                have m2 : (k : Int) * (R : Int) ≤ 72 := by have := Nat.mul_le_mul hT8 hR9; omega
                have m3 : 0 ≤ (k : Int) * (1 + 8 * (R : Int)) := Int.mul_nonneg (by omega) (by omega)
                have m4 : (k : Int) * (1 + 8 * (R : Int)) ≤ 584 := by
                  have := Nat.mul_le_mul hT8 (show 1 + 8 * R ≤ 73 by omega)
                  have e9 : ((k * (1 + 8 * R) : Nat) : Int) = (k : Int) * (1 + 8 * (R : Int)) := by simp
                  omega
                generalize B.em.length = en
                go_wp2_with fail
                generalize hV : v9.alloc (.cells #[.slice (some ⟨qc, 0, none⟩) 16 16, .slice ea en ec, .slice (some ⟨sb, 0, none⟩) k sc, .int .i64 ((k : Int) * (1 + 8 * (R : Int)))] 27) = V
                have hbV : Below v9.heap.size v9 V := by rw [← hV]; exact (Below.refl _ _).alloc (Nat.le_refl _) _
                have hxV : Box V v9.heap.size 27 #[.slice (some ⟨qc, 0, none⟩) 16 16, .slice ea en ec, .slice (some ⟨sb, 0, none⟩) k sc, .int .i64 ((k : Int) * (1 + 8 * (R : Int)))] := by rw [← hV]; exact Box.new v9 _ _
                have z0 := hxV.cell 0
                have z2 := hxV.cell 2
                have z3 := hxV.cell 3
                simp at z0 z2 z3
                have y0 : V.cell? ⟨qc, 0, none⟩ = some (.int .i64 ((k : Int) * (R : Int))) := (hbV.cell (p := ⟨qc, 0, none⟩) hql).trans d0
                have HWV : Hid (Below w.heap.size w V) := HW9.out.trans (hbV.mono HW9.out.size)
                have HSTV : Hid (∀ j, j < k → V.cell? ⟨sb, j, none⟩ = some (.int .i64 2)) := fun j hj => (hbV.cell (p := ⟨sb, j, none⟩) hsl).trans (HST.out j hj)
                generalize v9.heap.size = rb at z0 z2 z3 ⊢
                clear hV hbV hxV HST d0 hsl hql HW9
                go_loopw [15] (fun i wz => ∃ j : Nat, j ≤ k ∧ i = .int .i64 (j : Int) ∧ wz = V) (fun i _ => k - (intOf i).toNat)
                case atStart => exact ⟨0, Nat.zero_le _, rfl, rfl⟩
                case round =>
                  obtain ⟨j, hj, rfl, rfl⟩ := hrel
                  by_cases hjk : j < k
                  · have t1 := HSTV.out j hjk
                    go_wp2
                    go_roundw
                    case rel => exact ⟨j + 1, by omega, by go_num, trivial⟩
                    case measure => simp [intOf]; omega
                  · obtain rfl : j = k := by omega
                    go_wp2
                    go_returns
                    exact ⟨rfl, HWV.out⟩
end Go.Proofs.Ytehkcgjiimfdjaa
