/- SchedApart: the walk. -/
import Derived.Test.YtehkcgjiimfdjaaApPlain
import Derived.Test.YtehkcgjiimfdjaaApp5
import Derived.Test.YtehkcgjiimfdjaaSchedBeginsWalk
import Derived.Deep.DeepCutAuto
namespace Go.Proofs.Ytehkcgjiimfdjaa
open Go.RowKit
def upN (n : Nat) : List Int := (List.range n).map Int.ofNat
theorem upN_succ (n : Nat) : upN (n + 1) = upN n ++ [(n : Int)] := by simp [upN, List.range_succ]
theorem upN_len (n : Nat) : (upN n).length = n := by simp [upN]
theorem reps_wf {l : List Ins} (h : ∀ x ∈ l, in64I x) : ∀ n, ∀ x ∈ reps l n, in64I x
  | 0, x, hx => by cases hx
  | n + 1, x, hx => by
    rw [reps] at hx
    rcases List.mem_append.1 hx with hx | hx
    · exact reps_wf h n x hx
    · exact h x hx
theorem blkA_wf : ∀ x ∈ blkA, in64I x := by simp [blkA, in64I, in64]
theorem blkB_wf : ∀ x ∈ blkB, in64I x := by simp [blkB, in64I, in64]
theorem IsAt.one (w : World) (n : Int) (h : in64 n) : IsAt (w.alloc (.cells #[.int .i64 n] 3)) (some ⟨w.heap.size, 0, none⟩) 1 1 [n] :=
  IsAt.box (l := [n]) (Box.new w 3 _) (by unfold maxLen; simp) (by simpa [in64] using h)
set_option maxRecDepth 100000 in
set_option maxHeartbeats 1000000 in
theorem schedApart_walk (a0 : Int) (a1 : Int) (a2 : Option Addr) (len2 cap2 : Nat) (b2 : List Int) (w : World) (w0 : (Lit.int .i64 a0).wf = true) (w1 : (Lit.int .i64 a1).wf = true) (w2 : IsAt w a2 len2 cap2 b2) (e2 : cap2 ≤ 17592186043904) :
    Calls Try.prog 8 #[.int .i64 a0, .int .i64 a1, .slice a2 len2 cap2] w fun e w' => e = .returned (.bool true) ∧ Below w.heap.size w w' := by
  have H2 : Hid (IsAt w a2 len2 cap2 b2) := w2
  have hle2 := w2.le
  have hw0 : -9223372036854775808 ≤ a0 ∧ a0 ≤ 9223372036854775807 := by
    simp [Lit.wf, IntKind.min, IntKind.max, IntKind.bits, IntKind.signed] at w0
    omega
  have hw1 : -9223372036854775808 ≤ a1 ∧ a1 ≤ 9223372036854775807 := by
    simp [Lit.wf, IntKind.min, IntKind.max, IntKind.bits, IntKind.signed] at w1
    omega
  obtain ⟨l0, u0⟩ := hw0
  obtain ⟨l1, u1⟩ := hw1
  clear w0 w1 w2
  go_enter Try.func8, Try.ntmps8
  go_wp2_with fail
  refine (awake_any _).mono ?_
  rintro _ v1 ⟨rfl, hb1⟩
  have HB1 : Hid (Below w.heap.size w v1) := hb1
  clear hb1
  go_upto_if 18 with fail
  go_cut [0] (fun s wc => ∃ q : Nat, s = .int .i64 q ∧ q ≤ 9223372036854775807 ∧ wc = v1)
  case first =>
    by_cases hq : a0 < 0
    · obtain ⟨q, e⟩ : ∃ q : Nat, -(a0 + 1) = (q : Int) := ⟨(-(a0 + 1)).toNat, by omega⟩
      have HE : Hid (-(a0 + 1) = (q : Int)) := e
      clear e
      go_wp2_with fail
      go_meet
      exact ⟨q, by rw [HE.out], by have := HE.out; omega, rfl⟩
    · go_wp2_with fail
      go_meet
      exact ⟨a0.toNat, by rw [show ((a0.toNat : Nat) : Int) = a0 by omega], by omega, rfl⟩
  case rest =>
    obtain ⟨qa, rfl, hqa, rfl⟩ := hcut
    clear l0 u0
    go_upto_if 23 with fail
    go_cut [1] (fun s wz => ∃ q : Nat, s = .int .i64 q ∧ q ≤ 9223372036854775807 ∧ wz = wc)
    case first =>
      by_cases hq : a1 < 0
      · obtain ⟨q, e⟩ : ∃ q : Nat, -(a1 + 1) = (q : Int) := ⟨(-(a1 + 1)).toNat, by omega⟩
        have HE : Hid (-(a1 + 1) = (q : Int)) := e
        clear e
        go_wp2_with fail
        go_meet
        exact ⟨q, by rw [HE.out], by have := HE.out; omega, rfl⟩
      · go_wp2_with fail
        go_meet
        exact ⟨a1.toNat, by rw [show ((a1.toNat : Nat) : Int) = a1 by omega], by omega, rfl⟩
    case rest =>
      obtain ⟨qb, rfl, hqb, rfl⟩ := hcut
      clear l1 u1
      obtain ⟨A, hA, eA⟩ : ∃ A : Nat, A < 20 ∧ ((qa : Int) % 20) = (A : Int) := ⟨qa % 20, by omega, by omega⟩
      obtain ⟨C, hC, eC⟩ : ∃ C : Nat, C < 20 ∧ ((qb : Int) % 20) = (C : Int) := ⟨qb % 20, by omega, by omega⟩
      have HEA : Hid (((qa : Int) % 20) = (A : Int)) := eA
      have HEC : Hid (((qb : Int) % 20) = (C : Int)) := eC
      clear eA eC
      go_wp2_with fail
      rw [HEA.out, HEC.out]
      clear HEA HEC hqa hqb
      go_loopw [8, 10] (fun o i wr => ∃ (k c : Nat) (ao : Option Addr), k ≤ A ∧ i = .int .i64 (k : Int) ∧ o = .slice ao (3 * k) c ∧ Hid (OwnI wr w.heap.size ao (3 * k) c (reps blkA k)) ∧ Hid (Below w.heap.size w wr)) (fun _ i _ => A - (intOf i).toNat)
      case atStart => exact ⟨0, 0, none, Nat.zero_le _, rfl, rfl, OwnI.nil _ _, HB1⟩
      case round =>
        obtain ⟨k, c, ao, hk, rfl, rfl, HO, HB⟩ := hrel
        by_cases hlt : k < A
        · have HBX : Hid (Box (wr.alloc (.cells #[.int .i64 1, .int .i64 0, .int .i64 1, .int .i64 0, .int .i64 5, .int .i64 0, .int .i64 1, .int .i64 0, .int .i64 2, .int .i64 1, .int .i64 0, .int .i64 0] 37)) wr.heap.size 37 (insL blkA).toArray) := Box.new wr _ _
          have HA1 : Hid (∀ o : Obj, Below wr.heap.size wr (wr.alloc o)) := fun o => (Below.refl _ _).alloc (Nat.le_refl _) _
          have hsz := HB.out.size
          go_wp2_with (first | (at_builtin; refine wpList_appI _ rfl _ _ rfl w.heap.size _ _ _ (reps blkA k) rfl (HO.out.below (HA1.out _)) _ 3 3 blkA rfl HBX.out rfl blkA_wf (by omega) (by simp; omega) ?_))
          intro a' c' w' hO' hb' hg'
          have HO' : Hid (OwnI w' w.heap.size a' (3 * (k + 1)) c' (reps blkA (k + 1))) := hO'
          have HB' : Hid (Below w.heap.size w w') := (HB.out.trans ((HA1.out _).mono hsz)).trans hb'
          go_wp2
          go_roundw
          case rel => exact ⟨k + 1, c', a', by omega, by go_num, rfl, HO', HB'⟩
          case measure => simp [intOf]; omega
        · obtain rfl : k = A := by omega
          go_wp2_with fail
          have HO1 : Hid (OwnI wr w.heap.size ao (3 * k) c (reps blkA k)) := HO
          have HW1 : Hid (Below w.heap.size w wr) := HB
          have hs1 : w.heap.size ≤ wr.heap.size := HB.out.size
          clear HO HB
          rename World => x1
          go_loopw [9, 11] (fun o i wz => ∃ (j d : Nat) (aj : Option Addr), j ≤ C ∧ i = .int .i64 (j : Int) ∧ o = .slice aj (3 * j) d ∧ Hid (OwnI wz x1.heap.size aj (3 * j) d (reps blkB j)) ∧ Hid (Below x1.heap.size x1 wz)) (fun _ i _ => C - (intOf i).toNat)
          case atStart => exact ⟨0, 0, none, Nat.zero_le _, rfl, rfl, OwnI.nil _ _, Below.refl _ _⟩
          case round =>
            obtain ⟨j, d, aj, hj, rfl, rfl, HO, HB⟩ := hrel
            by_cases hlt2 : j < C
            · have HBX : Hid (Box (wr.alloc (.cells #[.int .i64 1, .int .i64 2, .int .i64 2, .int .i64 0, .int .i64 5, .int .i64 2, .int .i64 2, .int .i64 0, .int .i64 2, .int .i64 2, .int .i64 2, .int .i64 0] 37)) wr.heap.size 37 (insL blkB).toArray) := Box.new wr _ _
              have HA1 : Hid (∀ o : Obj, Below wr.heap.size wr (wr.alloc o)) := fun o => (Below.refl _ _).alloc (Nat.le_refl _) _
              have hsz := HB.out.size
              go_wp2_with (first | (at_builtin; refine wpList_appI _ rfl _ _ rfl x1.heap.size _ _ _ (reps blkB j) rfl (HO.out.below (HA1.out _)) _ 3 3 blkB rfl HBX.out rfl blkB_wf (by omega) (by simp; omega) ?_))
              intro a' c' w' hO' hb' hg'
              have HO' : Hid (OwnI w' x1.heap.size a' (3 * (j + 1)) c' (reps blkB (j + 1))) := hO'
              have HB' : Hid (Below x1.heap.size x1 w') := (HB.out.trans ((HA1.out _).mono hsz)).trans hb'
              go_wp2
              go_roundw
              case rel => exact ⟨j + 1, c', a', by omega, by go_num, rfl, HO', HB'⟩
              case measure => simp [intOf]; omega
            · obtain rfl : j = C := by omega
              have HO2 : Hid (OwnI wr x1.heap.size aj (3 * j) d (reps blkB j)) := HO
              have HI1 : Hid (IcAt wr ao (3 * k) c (reps blkA k)) := HO1.out.is.below (Nat.le_refl _) HB.out
              have HW2 : Hid (Below w.heap.size w wr) := HW1.out.trans (HB.out.mono hs1)
              have hs2 : w.heap.size ≤ wr.heap.size := HW2.out.size
              clear HO HB HO1 HW1 hs1 hlt2
              rename World => x2
              go_upto_if 55 with fail
              go_cut [2] (fun s wz => ∃ n : Nat, s = .slice a2 n cap2 ∧ n ≤ 200 ∧ n ≤ cap2 ∧ wz = x2 ∧ Hid (IsAt x2 a2 n cap2 (b2.take n)))
              case first =>
                have HI : Hid (IsAt x2 a2 len2 cap2 b2) := H2.out.below (Nat.le_refl _) HW2.out
                by_cases hq : 200 < len2
                · obtain ⟨bb, off, rfl, _⟩ := H2.out.here (by omega)
                  go_wp2_with fail
                  go_meet
                  exact ⟨200, rfl, by omega, by omega, rfl, HI.out.upTo (by omega)⟩
                · have hq' : decide ((200 : Int) < (len2 : Int)) = false := by simp; omega
                  go_wp2_with fail
                  go_meet
                  exact ⟨len2, rfl, by omega, hle2, rfl, HI.out.upTo (Nat.le_refl _)⟩
              case rest =>
                obtain ⟨n, rfl, hn, hnc, rfl, HP⟩ := hcut
                have HMD : Hid (OwnN (wc.alloc (.cells #[] 3)) wc.heap.size (some ⟨wc.heap.size, 0, none⟩) 0 0 []) := OwnN.made wc
                have HA1 : Hid (∀ o : Obj, Below wc.heap.size wc (wc.alloc o)) := fun o => (Below.refl _ _).alloc (Nat.le_refl _) _
                go_wp2_with (first | (at_builtin; refine wpList_appN _ rfl _ _ rfl wc.heap.size _ _ _ [] rfl HMD.out a2 n cap2 (b2.take n) rfl (HP.out.below (Nat.le_refl _) (HA1.out _)) (by omega) (by simp) ?_))
                intro a' c' w' hO' hb' hg'
                have HO' : Hid (OwnN w' wc.heap.size a' n c' (b2.take n)) := hO'
                have HB' : Hid (Below wc.heap.size wc w') := (HA1.out _).trans hb'
                clear hO' hb' hg' HMD HA1 HP
                go_wp2_with fail
                go_loopw [12, 13] (fun o i wz => ∃ (m c3 : Nat) (a3 : Option Addr), m ≤ 3 * (k + j) ∧ i = .int .i64 (m : Int) ∧ o = .slice a3 (n + m) c3 ∧ Hid (OwnN wz wc.heap.size a3 (n + m) c3 (b2.take n ++ upN m)) ∧ Hid (Below wc.heap.size wc wz)) (fun _ i _ => 3 * (k + j) - (intOf i).toNat)
                case atStart => exact ⟨0, c', a', Nat.zero_le _, rfl, rfl, by have := HO'.out; unfold Hid; rwa [show upN 0 = [] from rfl, List.append_nil], HB'⟩
                case round =>
                  obtain ⟨m, c3, a3, hm, rfl, rfl, HO, HB⟩ := hrel
                  by_cases hlt3 : m < 3 * (k + j)
                  · have HSR : Hid (IsAt (wr.alloc (.cells #[.int .i64 (m : Int)] 3)) (some ⟨wr.heap.size, 0, none⟩) 1 1 [(m : Int)]) := IsAt.one wr _ (by unfold in64; omega)
                    have HA1 : Hid (∀ o : Obj, Below wr.heap.size wr (wr.alloc o)) := fun o => (Below.refl _ _).alloc (Nat.le_refl _) _
                    have hsz := HB.out.size
                    have hx1 : (m : Int) < 3 * ((k : Int) + (j : Int)) := by omega
                    go_wp2_with (first | (at_builtin; refine wpList_appN _ rfl _ _ rfl wc.heap.size _ _ _ (b2.take n ++ upN m) rfl (HO.out.below (HA1.out _)) _ 1 1 [(m : Int)] rfl HSR.out (by omega) (by simp; omega) ?_))
                    intro a4 c4 w4 hO4 hb4 hg4
                    have HO4 : Hid (OwnN w4 wc.heap.size a4 (n + (m + 1)) c4 (b2.take n ++ upN (m + 1))) := by unfold Hid; rw [upN_succ]; exact hO4
                    have HB4 : Hid (Below wc.heap.size wc w4) := (HB.out.trans ((HA1.out _).mono hsz)).trans hb4
                    clear hO4 hb4 hg4
                    go_wp2
                    go_roundw
                    case rel => exact ⟨m + 1, c4, a4, by omega, by go_num, rfl, HO4, HB4⟩
                    case measure => simp [intOf]; omega
                  · have hx1 : ¬ (m : Int) < 3 * ((k : Int) + (j : Int)) := by omega
                    obtain ⟨N, HN⟩ : ∃ N, Hid (N = n + m) := ⟨_, rfl⟩
                    have HO5 : Hid (OwnN wr wc.heap.size a3 N c3 (b2.take n ++ upN m)) := by unfold Hid; rw [HN.out]; exact HO.out
                    have HL : Hid (3 * (k + j) ≤ (b2.take n ++ upN m).length) := by
                      unfold Hid
                      rw [List.length_append, upN_len]
                      omega
                    have HZ : Hid ((b2.take n ++ upN m).length = N) := HO5.out.size
                    have hNN : N ≤ 100000 := by rw [HN.out]; omega
                    have HP1 : Hid (IcAt wr ao (3 * k) c (reps blkA k)) := HI1.out.below (Nat.le_refl _) HB.out
                    have HP2 : Hid (IcAt wr aj (3 * j) d (reps blkB j)) := HO2.out.is.below (Nat.le_refl _) HB.out
                    have HWr : Hid (Below w.heap.size w wr) := HW2.out.trans (HB.out.mono hs2)
                    have HA1 : Hid (∀ o : Obj, Below wr.heap.size wr (wr.alloc o)) := fun o => (Below.refl _ _).alloc (Nat.le_refl _) _
                    have HCD : Hid (CdAt (wr.alloc (.cells #[.slice ao (3 * k) c, .slice aj (3 * j) d] 38)) (some ⟨wr.heap.size, 0, none⟩) 2 2 [reps blkA k, reps blkB j]) :=
                      CdAt.two (Box.new wr _ _) (HP1.out.below (Nat.le_refl _) (HA1.out _)) (HP2.out.below (Nat.le_refl _) (HA1.out _))
                    rw [← HN.out]
                    clear hlt3
                    go_wp2_with fail
                    refine (srun_at _ 2 2 _ none 0 0 [] a3 N c3 (b2.take n ++ upN m) HCD.out (IsAt.nil _) (HO5.out.is.below (Nat.le_refl _) (HA1.out _)) (by rw [HZ.out]; omega) (fun _ => by rw [ap_all hA hC HL.out]; simp [apB])).mono ?_
                    rintro e v9 (⟨h, _⟩ | ⟨_, qc, ea, ec, sa, sc, rfl, R⟩)
                    · rw [ap_ok hA hC] at h
                      cases h
                    · rw [ap_all hA hC HL.out] at R
                      rw [ap_all hA hC HL.out]
                      have hc9 := R.cells
                      have hs9 := R.states
                      have hb9 := R.base
                      rw [ap_cells] at hc9
                      rw [ap_states] at hs9
                      have e5 : (apB k j (3 * k) (3 * j)).ts.length = 2 := rfl
                      have e6 : (((apB k j (3 * k) (3 * j)).steps : Nat) : Int) = 3 * ((k : Int) + (j : Int)) := by simp [apB]; omega
                      have e7 : (apB k j (3 * k) (3 * j)).em.length = 0 := rfl
                      rw [e5] at hs9
                      rw [e5, e6, e7]
                      obtain ⟨_, _, _, hsa⟩ := row_addr hs9
                      obtain ⟨sb, rfl⟩ := hsa (by omega)
                      have t0 := hs9.cellAt 0 (by omega)
                      have t1 := hs9.cellAt 1 (by omega)
                      have hsl := tag_lt (row_tag hs9 rfl)
                      have d1 := hc9.cell 1
                      have d2 := hc9.cell 2
                      have hql := hc9.lt
                      simp at t0 t1 d1 d2
                      have HW9 : Hid (Below w.heap.size w v9) := (HWr.out.trans ((HA1.out _).mono HWr.out.size)).trans (hb9.mono (by have := HWr.out.size; simp; omega))
                      clear R hc9 hs9 hb9 e5 e6 e7
                      go_wp2
                      go_returns
                      exact ⟨rfl, HW9.out.alloc HW9.out.size _⟩
end Go.Proofs.Ytehkcgjiimfdjaa
