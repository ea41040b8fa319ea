/- The contract of version's Nums: all numbers, rising. -/
import Derived.Test.YtmlfbihlbiikeaaGreatDoorQa07
import Derived.Test.YtmlfbihlbiikeaaGreatDoorQa10
import Derived.Test.YtmlfbihlbiikeaaGreatDoorQa38
import Derived.Test.YtmlfbihlbiikeaaGreatDoorQa06
import Derived.Test.YtmlfbihlbiikeaaGreatDoorQa13
import Derived.Test.YtmlfbihlbiikeaaGreatDoorQa02
namespace Go.Proofs.YtmlfbihlbiikeaaGreatDoor
open Go.RowKit
set_option linter.unusedVariables false
set_option linter.unusedSimpArgs false
theorem OwnU.ahead {w : World} {B g n c : Nat} {l : List Nat} (h : OwnU w B (some ⟨g, 0, none⟩) n c l) : Rw w w g 0 l.toArray ∧ g < w.heap.size ∧ l.toArray.size = n := by
  have hs := h.size
  rcases h.row.2 with ⟨hv, _⟩ | ⟨g', c', cur, hv, hB, hg, hn, hc, hz, ht⟩
  · cases hv
  · have eg : g' = g := by simp at hv; exact hv.1.symm
    subst eg
    have hb : Box w g' TU cur := hg
    refine ⟨⟨fun t ht' => ?_, fun t => hb.soft t, Chg.refl _ _, fun t arr ha => ⟨arr, ha, rfl⟩⟩, hb.lt, by simpa using hs⟩
    have htl : t < l.length := by simpa using ht'
    have h2 := h.row.cellAt t (by simp [hs] at *; omega)
    rw [Nat.zero_add, h2]
    simp [cellsU, htl]
theorem OwnU.behind {w w' : World} {B g n c : Nat} {l : List Nat} {d : Array Nat} (h : OwnU w B (some ⟨g, 0, none⟩) n c l) (hr : Rw w w' g 0 d) (hd : d.size = n) : OwnU w' B (some ⟨g, 0, none⟩) n c d.toList := by
  refine ⟨by simpa using hd, by simp [cellsU, hd], ?_⟩
  rcases h.row.2 with ⟨hv, _⟩ | ⟨g', c', cur, hv, hB, hg, hn, hc, hz, ht⟩
  · cases hv
  · have eg : g' = g ∧ c' = c := by simp at hv; exact ⟨hv.1.symm, hv.2.symm⟩
    obtain ⟨rfl, rfl⟩ := eg
    obtain ⟨arr, hb, hsz⟩ := hr.shape TU cur hg
    refine .inr ⟨g', c', arr, rfl, hB, hb, hn, hc, by rw [hsz]; exact hz, ?_⟩
    apply List.ext_getElem?
    intro i
    by_cases hi : i < n
    · have h3 := hr.cell i (by omega)
      rw [Nat.zero_add, hb.cell] at h3
      rw [List.getElem?_take, if_pos (by omega), Array.getElem?_toList, h3]
      simp [cellsU, hd, hi]
    · rw [List.getElem?_take, if_neg (by omega), eq_comm, List.getElem?_eq_none]
      simp [cellsU, hd]
      omega
set_option maxRecDepth 100000 in
set_option maxHeartbeats 2000000 in
theorem ins_nil (w : World) : Calls Tryz.prog 242 #[.slice none 0 0, .int .i64 0, .int .i64 0] w fun e w' => e = .returned (.tuple #[]) ∧ w = w' := by
  go_enter Tryz.func242, Tryz.ntmps242
  go_wp2
  go_loopg [6] 0 (fun kx s6 wr => s6 = .int .i64 1 ∧ wr = w)
  case atStart => exact ⟨rfl, rfl⟩
  case round =>
    obtain ⟨rfl, rfl⟩ := hrel
    go_wp2
    go_end0
    exact ⟨rfl, rfl⟩
set_option maxRecDepth 100000 in
set_option maxHeartbeats 2000000 in
theorem pdq_nil (lim : Nat) (w : World) : Calls Tryz.prog 209 #[.slice none 0 0, .int .i64 0, .int .i64 0, .int .i64 (lim : Int)] w fun e w' => e = .returned (.tuple #[]) ∧ w = w' := by
  go_enter Tryz.func209, Tryz.ntmps209
  go_wp2_with fail
  go_loopg [1, 2, 3, 8, 9] 0 (fun kx s1 s2 s3 s8 s9 wr => s1 = .int .i64 0 ∧ s2 = .int .i64 0 ∧ wr = w)
  case atStart => exact ⟨rfl, rfl, rfl⟩
  case round =>
    obtain ⟨rfl, rfl, rfl⟩ := hrel
    have hi := ins_nil wr
    go_wp2_with fail
    refine hi.mono ?_
    rintro _ w1 ⟨rfl, rfl⟩
    go_wp2_with fail
    (try simp only [Exit.inBlock, Exit.then])
    refine bodyPost_ret (results_none rfl _ _ _) rfl ?_
    exact ⟨rfl, rfl⟩
set_option maxRecDepth 100000 in
set_option maxHeartbeats 2000000 in
theorem sort_nil (w : World) : Calls Tryz.prog 163 #[.slice none 0 0] w fun e w' => e = .returned (.tuple #[]) ∧ w = w' := by
  have HL : Hid (Calls Tryz.prog 208 #[.int .u64 0] w fun e w' => e = .returned (.int .i64 ((Lib.bitLen 0 : Nat) : Int)) ∧ w = w') := len_at 0 (by omega) w
  have HP : Hid (∀ lim : Nat, Calls Tryz.prog 209 #[.slice none 0 0, .int .i64 0, .int .i64 0, .int .i64 (lim : Int)] w fun e w' => e = .returned (.tuple #[]) ∧ w = w') := fun lim => pdq_nil lim w
  generalize Lib.bitLen 0 = L at HL
  go_enter Tryz.func163, Tryz.ntmps163
  go_wp2_with fail
  refine Calls.mono HL.out ?_
  rintro _ w1 ⟨rfl, rfl⟩
  go_wp2_with fail
  refine Calls.mono (HP.out L) ?_
  rintro _ w2 ⟨rfl, rfl⟩
  go_wp2
  go_end0
  exact ⟨rfl, rfl⟩
theorem sort_own {w : World} {B : Nat} {a : Option Addr} {n c : Nat} {l : List Nat} (h : OwnU w B a n c l) (hn : n < 65536) :
    Calls Tryz.prog 163 #[.slice a n c] w fun e w' => e = .returned (.tuple #[]) ∧ ∃ l', OwnU w' B a n c l' ∧ l'.Perm l ∧ l'.Pairwise (· ≤ ·) ∧ Chg (fun k => blkOf a = some k) w w' := by
  rcases h.row.2 with ⟨hv, h0⟩ | ⟨g, c', cur, hv, _⟩
  · simp only [Value.slice.injEq] at hv
    obtain ⟨rfl, rfl, rfl⟩ := hv
    have hl : l = [] := List.eq_nil_of_length_eq_zero h.size
    subst hl
    refine (sort_nil w).mono ?_
    rintro e w' ⟨rfl, rfl⟩
    exact ⟨rfl, [], h, List.Perm.refl _, List.Pairwise.nil, Chg.refl _ _⟩
  · simp only [Value.slice.injEq] at hv
    obtain ⟨rfl, _, rfl⟩ := hv
    obtain ⟨h1, h2, h3⟩ := h.ahead
    refine (sort_at g 0 c n l.toArray w h1 h2 h3 hn).mono ?_
    rintro e w' ⟨rfl, d, hr, hp, hs⟩
    have hd : d.size = n := hp.1.trans h3
    refine ⟨rfl, d.toList, h.behind hr hd, ?_, ?_, hr.chg.wide (fun k _ e => by rw [e]; rfl)⟩
    · have h4 := hp.2.2
      have e1 : d.extract 0 n = d := by rw [← hd]; simp
      have e2 : l.toArray.extract 0 n = l.toArray := by rw [← h3]; simp
      rw [e1, e2] at h4
      exact h4
    · rw [List.pairwise_iff_getElem]
      intro i j hi hj hij
      have h5 := hs i j (Nat.zero_le _) hij (by simpa [hd] using hj)
      have hi' : i < d.size := by simpa using hi
      have hj' : j < d.size := by simpa using hj
      simp only [lN, decide_eq_false_iff_not] at h5
      rw [getElem!_pos d i hi', getElem!_pos d j hj'] at h5
      simp only [Array.getElem_toList]
      omega
def accN (v : PV) (k : Nat) : List Nat := (List.range k).flatMap fun n => (v n).map PF.num
theorem accN_succ (v : PV) (k : Nat) : accN v (k + 1) = accN v k ++ (v k).map PF.num := by
  unfold accN
  rw [List.range_succ, List.flatMap_append]
  simp
theorem accN_four (v : PV) : accN v 4 = v.all.map PF.num := by
  rw [accN_succ, accN_succ, accN_succ, accN_succ]
  simp [accN, PV.all]
theorem accN_le {v : PV} {k : Nat} (hk : k < 4) : (accN v k).length + (v k).length ≤ v.all.length := by
  have h4 : (accN v 4).length = v.all.length := by rw [accN_four, List.length_map]
  rw [← h4]
  refine four (P := fun k => (accN v k).length + (v k).length ≤ (accN v 4).length) hk ?_ ?_ ?_ ?_
  all_goals simp only [accN_succ, List.length_append, List.length_map]
  all_goals omega
set_option maxRecDepth 100000 in
set_option maxHeartbeats 4000000 in
theorem nums_any (v : PV) (s : SV) (w : World) (h : VnAt w v s) (hn : v.all.length < 65536) :
    Calls Tryz.prog 110 #[.agg #[.slice (s.a 0) (v 0).length (s.c 0), .slice (s.a 1) (v 1).length (s.c 1), .slice (s.a 2) (v 2).length (s.c 2), .slice (s.a 3) (v 3).length (s.c 3)]] w fun e w' => ∃ (a : Option Addr) (n c : Nat) (l : List Nat), e = .returned (.slice a n c) ∧ OwnU w' w.heap.size a n c l ∧ l.Perm (v.all.map PF.num) ∧ l.Pairwise (· ≤ ·) ∧ Below w.heap.size w w' := by
  have HV : Hid (VnAt w v s) := h
  have HB0 : Hid (Below w.heap.size w (w.alloc (.cells (vA v s) TVn)) ∧ (w.alloc (.cells (vA v s) TVn)).heap.size = w.heap.size + 1) := ⟨(Below.refl _ _).alloc (Nat.le_refl _) _, by simp⟩
  have HN : Hid (v.all.length < 65536) := hn
  clear h hn
  go_enter Tryz.func110, Tryz.ntmps110
  go_wp2_with fail
  go_loopw [10, 3] (fun s10 s3 wr => ∃ (k : Nat) (a : Option Addr) (c : Nat), k ≤ 4 ∧ s10 = .int .i64 (k : Int) ∧ s3 = .slice a (accN v k).length c ∧ Hid (OwnU wr w.heap.size a (accN v k).length c (accN v k) ∧ Below w.heap.size w wr)) (fun s10 _ _ => 4 - (intOf s10).toNat)
  case atStart => exact ⟨0, none, 0, by omega, rfl, rfl, OwnU.nil _ _, HB0.out.1⟩
  case round =>
    obtain ⟨k, a, c, hk4, rfl, rfl, HI⟩ := hrel
    by_cases hk : k < 4
    · have hidx := idx_arr v s k hk
      have hle := accN_le (v := v) hk
      have hkI : (k : Int) < 4 := by omega
      have HKL : Hid (accN v (k + 1) = accN v k ++ (v k).map PF.num) := accN_succ v k
      have HFL : Hid (FlAt w (s.a k) (v k).length (s.c k) (v k)) := HV.out k hk
      have hmx := HFL.out.row.max
      have hlc := HFL.out.row.le
      have hall : v.all.length < 65536 := HN.out
      unfold maxLen at hmx
      generalize v k = lk at HKL HFL hle hmx hlc hidx
      generalize accN v k = ac at HI HKL hle
      generalize s.a k = ak at HFL hidx
      generalize s.c k = ck at HFL hidx hmx hlc
      go_wp2_with fail
      go_loopw [15, 3] (fun s15 s3 wq => ∃ (i : Nat) (a : Option Addr) (c : Nat), i ≤ lk.length ∧ s15 = .int .i64 (i : Int) ∧ s3 = .slice a (ac.length + i) c ∧ Hid (OwnU wq w.heap.size a (ac.length + i) c (ac ++ (lk.take i).map PF.num) ∧ Below w.heap.size w wq)) (fun s15 _ _ => lk.length - (intOf s15).toNat)
      case atStart => exact ⟨0, a, c, Nat.zero_le _, rfl, rfl, by simpa using HI.out.1, HI.out.2⟩
      case round =>
        obtain ⟨i, a', c', hil, rfl, rfl, HJ⟩ := hrel
        by_cases hi : i < lk.length
        · obtain ⟨b, o, hix, hblt, hcs⟩ := HFL.out.at hi
          obtain ⟨c0, c1, c2, c3, c4, c5, c6, c7, c8⟩ := hcs wr HJ.out.2
          have HTK : Hid (lk.take (i + 1) = lk.take i ++ [lk[i]]) := List.take_succ_eq_append_getElem hi
          clear hcs
          generalize lk[i] = f at c0 c1 c2 c3 c4 c5 c6 c7 c8 HTK
          have HW1 : Hid (OwnU ((wr.alloc (.cells (fA f) TF)).alloc (.cells #[.int .u64 (f.num : Int)] TU)) w.heap.size a' (ac.length + i) c' (ac ++ (lk.take i).map PF.num) ∧ Below w.heap.size w ((wr.alloc (.cells (fA f) TF)).alloc (.cells #[.int .u64 (f.num : Int)] TU)) ∧ UsAt ((wr.alloc (.cells (fA f) TF)).alloc (.cells #[.int .u64 (f.num : Int)] TU)) (some ⟨wr.heap.size + 1, 0, none⟩) 1 1 [f.num] ∧ w.heap.size ≤ ((wr.alloc (.cells (fA f) TF)).alloc (.cells #[.int .u64 (f.num : Int)] TU)).heap.size) := by
            have hB := (HJ.out.2.alloc HJ.out.2.size (.cells (fA f) TF)).alloc (Nat.le_trans HJ.out.2.size (by simp)) (.cells #[.int .u64 (f.num : Int)] TU)
            have h1 := UsAt.one (wr.alloc (.cells (fA f) TF)) f.num
            rw [World.size_alloc] at h1
            exact ⟨(HJ.out.1.alloc _).alloc _, hB, h1, hB.size⟩
          go_wp2_with (at_builtin; refine wpList_appU ((wr.alloc (.cells (fA f) TF)).alloc (.cells #[.int .u64 (f.num : Int)] TU)) rfl _ _ rfl w.heap.size a' (ac.length + i) c' (ac ++ (lk.take i).map PF.num) rfl HW1.out.1 (some ⟨wr.heap.size + 1, 0, none⟩) 1 1 [f.num] rfl HW1.out.2.2.1 (by omega) HW1.out.2.2.2 ?_; intro a2 c2' w2 ho2 hb2 hg2)
          have H2 : Hid (OwnU w2 w.heap.size a2 (ac.length + (i + 1)) c2' (ac ++ (lk.take (i + 1)).map PF.num) ∧ Below w.heap.size w w2) := by
            refine ⟨?_, HW1.out.2.1.trans hb2⟩
            rw [HTK.out, List.map_append, ← List.append_assoc]
            exact ho2
          clear ho2 hb2 hg2
          go_wp2
          go_roundw
          case rel => exact ⟨i + 1, a2, c2', hi, by go_num, rfl, H2.out⟩
          case measure => simp only [intOf]; omega
        · obtain rfl : i = lk.length := by omega
          go_wp2
          go_roundw
          case rel =>
            refine ⟨k + 1, a', c', hk, by go_num, by rw [HKL.out]; simp, ?_, HJ.out.2⟩
            rw [HKL.out]
            have := HJ.out.1
            rw [List.take_length] at this
            simpa using this
          case measure => simp only [intOf]; omega
    · obtain rfl : k = 4 := by omega
      have HA4 : Hid (accN v 4 = v.all.map PF.num ∧ (accN v 4).length < 65536) := ⟨accN_four v, by rw [accN_four, List.length_map]; exact HN.out⟩
      generalize accN v 4 = ac4 at HI HA4
      have hs := sort_own HI.out.1 HA4.out.2
      go_wp2_with fail
      refine hs.mono ?_
      rintro _ w2 ⟨rfl, l', ho, hp, hr, hch⟩
      have H2 : Hid (OwnU w2 w.heap.size a ac4.length c l' ∧ l'.Perm (v.all.map PF.num) ∧ l'.Pairwise (· ≤ ·) ∧ Below w.heap.size w w2) := ⟨ho, by rw [← HA4.out.1]; exact hp, hr, HI.out.2.trans (hch.below (fun k hk => HI.out.1.ge hk) HI.out.2.size)⟩
      clear ho hp hr hch hs
      go_wp2
      go_ret
      exact ⟨a, _, c, l', ret1 rfl, H2.out⟩
end Go.Proofs.YtmlfbihlbiikeaaGreatDoor
namespace Go.Proofs.YtmlfbihlbiikeaaGreatDoor
open Go.RowKit
set_option linter.unusedVariables false
set_option linter.unusedSimpArgs false
theorem nodup_adj : ∀ (l : List Nat), l.Pairwise (· ≤ ·) → (∀ j (h : j + 1 < l.length), l[j] ≠ l[j + 1]) → l.Nodup
  | [], _, _ => List.nodup_nil
  | x :: r, hp, ha => by
    have p := List.pairwise_cons.1 hp
    rw [List.nodup_cons]
    refine ⟨fun hx => ?_, nodup_adj r p.2 (fun j h => by have := ha (j + 1) (by simp; omega); simpa using this)⟩
    obtain ⟨i, hi, e⟩ := List.getElem_of_mem hx
    have h0 := ha 0 (by simp; omega)
    simp only [List.getElem_cons_zero, Nat.zero_add, List.getElem_cons_succ] at h0
    have h1 := p.1 r[0] (List.getElem_mem _)
    have h2 : r[0] ≤ r[i] := by
      rcases Nat.eq_zero_or_pos i with rfl | hpos
      · exact Nat.le_refl _
      · exact List.pairwise_iff_getElem.1 p.2 0 i (by omega) hi hpos
    omega
theorem not_nodup {l : List Nat} {j : Nat} (h : j + 1 < l.length) (e : l[j] = l[j + 1]) : ¬ l.Nodup := fun hn => by
  have := List.pairwise_iff_getElem.1 (List.nodup_iff_pairwise_ne.1 hn) j (j + 1) (by omega) h (by omega)
  exact this e
def chkV (v : PV) : Nat := if okV v = true then 0 else 140
theorem chkV_yes {v : PV} (h : VOk v) : chkV v = 0 := by unfold chkV; rw [if_pos (okV_iff.2 h)]
theorem chkV_no {v : PV} (h : ¬ VOk v) : chkV v = 140 := by unfold chkV; rw [if_neg (fun hx => h (okV_iff.1 hx))]
set_option maxRecDepth 100000 in
set_option maxHeartbeats 4000000 in
theorem vcheck_any (v : PV) (s : SV) (w : World) (h : VnAt w v s) (hw : WfV v) (hn : v.all.length < 65536) :
    Calls Tryz.prog 64 #[.agg #[.slice (s.a 0) (v 0).length (s.c 0), .slice (s.a 1) (v 1).length (s.c 1), .slice (s.a 2) (v 2).length (s.c 2), .slice (s.a 3) (v 3).length (s.c 3)]] w fun e w' => e = .returned (.int .i64 ((chkV v : Nat) : Int)) ∧ Below w.heap.size w w' := by
  have HV : Hid (VnAt w v s ∧ WfV v ∧ v.all.length < 65536) := ⟨h, hw, hn⟩
  have HB0 : Hid (Below w.heap.size w (w.alloc (.cells (vA v s) TVn)) ∧ Box (w.alloc (.cells (vA v s) TVn)) w.heap.size TVn (vA v s)) := ⟨(Below.refl _ _).alloc (Nat.le_refl _) _, Box.new _ _ _⟩
  have HYN : Hid ((VOk v → chkV v = 0) ∧ (¬ VOk v → chkV v = 140)) := ⟨chkV_yes, chkV_no⟩
  generalize chkV v = cv at HYN ⊢
  clear h hw hn
  go_enter Tryz.func64, Tryz.ntmps64
  go_wp2_with fail
  go_loopw [9] (fun s9 wr => ∃ (k : Nat), k ≤ 4 ∧ s9 = .int .i64 (k : Int) ∧ Hid (Below w.heap.size w wr ∧ Box wr w.heap.size TVn (vA v s) ∧ ∀ n, n < k → LvOk n (v n))) (fun s9 _ => 4 - (intOf s9).toNat)
  case atStart => exact ⟨0, by omega, rfl, HB0.out.1, HB0.out.2, fun n hn => by omega⟩
  case round =>
    obtain ⟨k, hk4, rfl, HI⟩ := hrel
    by_cases hk : k < 4
    · have hidx := idx_arr v s k hk
      have hkI : (k : Int) < 4 := by omega
      have hm := mayStand_any k (s.a k) (v k).length (s.c k) wr ((HV.out.1 k hk).below HI.out.1) (HV.out.2.1 k hk)
      go_wp2_with fail
      refine hm.mono ?_
      rintro _ w2 ⟨q, rfl, hq, hb2⟩
      have H2 : Hid ((q = true ↔ LvOk k (v k)) ∧ Below w.heap.size w w2 ∧ Box w2 w.heap.size TVn (vA v s)) := ⟨hq, HI.out.1.trans (hb2.mono HI.out.1.size), HI.out.2.1.kept (hb2.block _ HI.out.2.1.lt)⟩
      clear hq hb2 hm
      cases q with
      | true =>
        go_wp2
        go_roundw
        case rel =>
          refine ⟨k + 1, hk, by go_num, H2.out.2.1, H2.out.2.2, fun n hn => ?_⟩
          by_cases e : n = k
          · subst e
            exact H2.out.1.1 (by first | rfl | trivial)
          · exact HI.out.2.2 n (by omega)
        case measure => simp only [intOf]; omega
      | false =>
        go_wp2
        go_ret
        have hno : ¬ VOk v := fun h => by
          have := H2.out.1.2 (h.lv k hk)
          cases this
        rw [HYN.out.2 hno]
        exact ⟨ret1 rfl, H2.out.2.1⟩
    · obtain rfl : k = 4 := by omega
      have hnm := nums_any v s wr (HV.out.1.below HI.out.1) HV.out.2.2
      obtain ⟨x0, x1, x2, x3⟩ := HI.out.2.1.fourV
      go_wp2_with fail
      refine hnm.mono ?_
      rintro _ w2 ⟨a, n, c, l, rfl, ho, hp, hr, hb2⟩
      have hls := ho.size
      have H2 : Hid (UsAt w2 a n c l ∧ l.Perm (v.all.map PF.num) ∧ l.Pairwise (· ≤ ·) ∧ Below w.heap.size w w2 ∧ l.length = n) := ⟨ho.us, hp, hr, HI.out.1.trans (hb2.mono HI.out.1.size), hls⟩
      have hn6 : n < 65536 := by
        have := hp.length_eq
        have h6 := HV.out.2.2
        rw [List.length_map] at this
        omega
      clear ho hp hr hb2 hnm x0 x1 x2 x3 hls
      go_wp2_with fail
      go_loopw [6] (fun s6 wq => ∃ i : Nat, 1 ≤ i ∧ (i ≤ n ∨ i = 1) ∧ s6 = .int .i64 (i : Int) ∧ Hid (Below w2.heap.size w2 wq ∧ ∀ j (hj : j + 1 < i) (hl : j + 1 < l.length), l[j] ≠ l[j + 1])) (fun s6 _ => n - (intOf s6).toNat)
      case atStart => exact ⟨1, Nat.le_refl _, .inr rfl, rfl, Below.refl _ _, fun j hj => by omega⟩
      case round =>
        obtain ⟨i, hi1, hin, rfl, HJ⟩ := hrel
        by_cases hi : i < n
        · have hil : i < l.length := by rw [H2.out.2.2.2.2]; exact hi
          have hil' : i - 1 < l.length := by omega
          obtain ⟨b, o, hidx, _, hcs⟩ := H2.out.1.at hil
          obtain ⟨b', o', hidx', _, hcs'⟩ := H2.out.1.at hil'
          rw [show ((i - 1 : Nat) : Int) = (i : Int) - 1 by omega] at hidx'
          have c0 := hcs wr HJ.out.1
          have c1 := hcs' wr HJ.out.1
          have HE : Hid ((l[i] = l[i - 1] → ¬ VOk v) ∧ (l[i] ≠ l[i - 1] → ∀ j (hj : j + 1 < i + 1) (hl : j + 1 < l.length), l[j] ≠ l[j + 1])) := by
            constructor
            · intro e hV
              have h1 : ¬ l.Nodup := not_nodup (j := i - 1) (by omega) (by rw [← e]; congr 1; omega)
              exact h1 (H2.out.2.1.nodup_iff.2 hV.one)
            · intro e j hj hl
              by_cases ej : j = i - 1
              · subst ej
                intro e2
                apply e
                rw [e2]
                congr 1
                omega
              · exact HJ.out.2 j (by omega) hl
          clear hcs hcs'
          generalize l[i] = p at c0 HE
          generalize l[i - 1] = q at c1 HE
          by_cases hpq : p = q
          · subst hpq
            go_wp2_with fail
            go_quiet (fail)
            go_wp2
            go_ret
            rw [HYN.out.2 (HE.out.1 (by first | rfl | trivial))]
            exact ⟨ret1 rfl, (H2.out.2.2.2.1.trans (HJ.out.1.mono H2.out.2.2.2.1.size)).trans ⟨rfl, rfl, rfl, Nat.le_refl _, fun _ _ => rfl⟩⟩
          · have hpb : ((q : Int) == (p : Int)) = false := beq_eq_false_iff_ne.2 (by omega)
            go_wp2_with fail
            go_quiet (fail)
            go_wp2
            go_roundw
            case rel => exact ⟨i + 1, by omega, .inl (by omega), by go_num, HJ.out.1.trans ⟨rfl, rfl, rfl, Nat.le_refl _, fun _ _ => rfl⟩, HE.out.2 hpq⟩
            case measure => simp only [intOf]; omega
        · go_wp2
          go_ret
          have hyes : VOk v := by
            refine ⟨fun n hn => HI.out.2.2 n hn, H2.out.2.1.nodup_iff.1 (nodup_adj l H2.out.2.2.1 (fun j hj => HJ.out.2 j ?_ hj))⟩
            have := H2.out.2.2.2.2
            omega
          rw [HYN.out.1 hyes]
          exact ⟨ret1 rfl, H2.out.2.2.2.1.trans (HJ.out.1.mono H2.out.2.2.2.1.size)⟩
end Go.Proofs.YtmlfbihlbiikeaaGreatDoor
namespace Go.Proofs.YtmlfbihlbiikeaaGreatDoor
open Go.RowKit
set_option linter.unusedVariables false
set_option linter.unusedSimpArgs false
abbrev TSt : TypeId := 46
def sA (s : PSt) (t : SV) : Array Value := #[.int .u64 (s.num : Int), .slice (t.a 0) (s.v 0).length (t.c 0), .slice (t.a 1) (s.v 1).length (t.c 1), .slice (t.a 2) (s.v 2).length (t.c 2), .slice (t.a 3) (s.v 3).length (t.c 3), .int .u64 (s.log : Int), .int .u64 (s.next : Int), .int .u64 (s.last : Int)]
abbrev sV (s : PSt) (t : SV) : Value := .agg #[.int .u64 (s.num : Int), .slice (t.a 0) (s.v 0).length (t.c 0), .slice (t.a 1) (s.v 1).length (t.c 1), .slice (t.a 2) (s.v 2).length (t.c 2), .slice (t.a 3) (s.v 3).length (t.c 3), .int .u64 (s.log : Int), .int .u64 (s.next : Int), .int .u64 (s.last : Int)]
theorem Box.eight {w : World} {p : Nat} {s : PSt} {t : SV} (h : Box w p TSt (sA s t)) : w.cell? ⟨p, 0, none⟩ = some (.int .u64 (s.num : Int)) ∧ w.cell? ⟨p, 1, none⟩ = some (.slice (t.a 0) (s.v 0).length (t.c 0)) ∧ w.cell? ⟨p, 2, none⟩ = some (.slice (t.a 1) (s.v 1).length (t.c 1)) ∧ w.cell? ⟨p, 3, none⟩ = some (.slice (t.a 2) (s.v 2).length (t.c 2)) ∧ w.cell? ⟨p, 4, none⟩ = some (.slice (t.a 3) (s.v 3).length (t.c 3)) ∧ w.cell? ⟨p, 5, none⟩ = some (.int .u64 (s.log : Int)) ∧ w.cell? ⟨p, 6, none⟩ = some (.int .u64 (s.next : Int)) ∧ w.cell? ⟨p, 7, none⟩ = some (.int .u64 (s.last : Int)) :=
  ⟨h.cell 0, h.cell 1, h.cell 2, h.cell 3, h.cell 4, h.cell 5, h.cell 6, h.cell 7⟩
theorem arr8 (a0 a1 a2 a3 a4 a5 a6 a7 b0 b1 b2 b3 b4 b5 b6 b7 : Value) : (((((((((#[a0, a1, a2, a3, a4, a5, a6, a7] : Array Value).setIfInBounds 0 b0).setIfInBounds 1 b1).setIfInBounds 2 b2).setIfInBounds 3 b3).setIfInBounds 4 b4).setIfInBounds 5 b5).setIfInBounds 6 b6).setIfInBounds 7 b7) = #[b0, b1, b2, b3, b4, b5, b6, b7] := by simp
theorem box8 {W : World} {p : Nat} {a0 a1 a2 a3 a4 a5 a6 a7 : Value} (h : Box W p TSt #[a0, a1, a2, a3, a4, a5, a6, a7]) (b0 b1 b2 b3 b4 b5 b6 b7 : Value) : Box ((((((((W.setCell ⟨p, 0, none⟩ b0).setCell ⟨p, 1, none⟩ b1).setCell ⟨p, 2, none⟩ b2).setCell ⟨p, 3, none⟩ b3).setCell ⟨p, 4, none⟩ b4).setCell ⟨p, 5, none⟩ b5).setCell ⟨p, 6, none⟩ b6).setCell ⟨p, 7, none⟩ b7) p TSt #[b0, b1, b2, b3, b4, b5, b6, b7] :=
  Box.eq ((((((((h.set 0 b0).set 1 b1).set 2 b2).set 3 b3).set 4 b4).set 5 b5).set 6 b6).set 7 b7) (arr8 _ _ _ _ _ _ _ _ _ _ _ _ _ _ _ _)
theorem put8_all {W : World} {p : Nat} {s0 : PSt} {t0 : SV} (h : Box W p TSt (sA s0 t0)) (b0 b1 b2 b3 b4 b5 b6 b7 : Value) : ∃ Z, Z = (((((((W.setCell ⟨p, 0, none⟩ b0).setCell ⟨p, 1, none⟩ b1).setCell ⟨p, 2, none⟩ b2).setCell ⟨p, 3, none⟩ b3).setCell ⟨p, 4, none⟩ b4).setCell ⟨p, 5, none⟩ b5).setCell ⟨p, 6, none⟩ b6).setCell ⟨p, 7, none⟩ b7 ∧
    Z.cell? ⟨p, 0, none⟩ = some b0 ∧ Z.cell? ⟨p, 1, none⟩ = some b1 ∧ Z.cell? ⟨p, 2, none⟩ = some b2 ∧ Z.cell? ⟨p, 3, none⟩ = some b3 ∧ Z.cell? ⟨p, 4, none⟩ = some b4 ∧ Z.cell? ⟨p, 5, none⟩ = some b5 ∧ Z.cell? ⟨p, 6, none⟩ = some b6 ∧ Z.cell? ⟨p, 7, none⟩ = some b7 ∧ Hid (Box Z p TSt #[b0, b1, b2, b3, b4, b5, b6, b7] ∧ Chg (fun k => k = p) W Z) := by
  have h8 := box8 h b0 b1 b2 b3 b4 b5 b6 b7
  have hc : Chg (fun k => k = p) W ((((((((W.setCell ⟨p, 0, none⟩ b0).setCell ⟨p, 1, none⟩ b1).setCell ⟨p, 2, none⟩ b2).setCell ⟨p, 3, none⟩ b3).setCell ⟨p, 4, none⟩ b4).setCell ⟨p, 5, none⟩ b5).setCell ⟨p, 6, none⟩ b6).setCell ⟨p, 7, none⟩ b7) := ((((((((Chg.refl (fun k => k = p) W).set (fun _ => rfl) _ _).set (fun _ => rfl) _ _).set (fun _ => rfl) _ _).set (fun _ => rfl) _ _).set (fun _ => rfl) _ _).set (fun _ => rfl) _ _).set (fun _ => rfl) _ _).set (fun _ => rfl) _ _
  exact ⟨_, rfl, h8.cell 0, h8.cell 1, h8.cell 2, h8.cell 3, h8.cell 4, h8.cell 5, h8.cell 6, h8.cell 7, h8, hc⟩
theorem put4_all {W : World} {p : Nat} {s0 : PSt} {t0 : SV} (h : Box W p TSt (sA s0 t0)) (u : PV) (t : SV) : ∃ Z, Z = (((W.setCell ⟨p, 1, none⟩ (.slice (t.a 0) (u 0).length (t.c 0))).setCell ⟨p, 2, none⟩ (.slice (t.a 1) (u 1).length (t.c 1))).setCell ⟨p, 3, none⟩ (.slice (t.a 2) (u 2).length (t.c 2))).setCell ⟨p, 4, none⟩ (.slice (t.a 3) (u 3).length (t.c 3)) ∧ Hid (Box Z p TSt (sA ⟨s0.num, u, s0.log, s0.next, s0.last⟩ t) ∧ Chg (fun k => k = p) W Z) := by
  have hc : Chg (fun k => k = p) W ((((W.setCell ⟨p, 1, none⟩ (.slice (t.a 0) (u 0).length (t.c 0))).setCell ⟨p, 2, none⟩ (.slice (t.a 1) (u 1).length (t.c 1))).setCell ⟨p, 3, none⟩ (.slice (t.a 2) (u 2).length (t.c 2))).setCell ⟨p, 4, none⟩ (.slice (t.a 3) (u 3).length (t.c 3))) := ((((Chg.refl (fun k => k = p) W).set (fun _ => rfl) _ _).set (fun _ => rfl) _ _).set (fun _ => rfl) _ _).set (fun _ => rfl) _ _
  refine ⟨_, rfl, Box.eq ((((h.set 1 _).set 2 _).set 3 _).set 4 _) ?_, hc⟩
  simp [sA]
theorem put3_all {W : World} {p : Nat} {s0 : PSt} {t0 : SV} (h : Box W p TSt (sA s0 t0)) (a b c : Nat) : ∃ Z, Z = ((W.setCell ⟨p, 5, none⟩ (.int .u64 (a : Int))).setCell ⟨p, 6, none⟩ (.int .u64 (b : Int))).setCell ⟨p, 7, none⟩ (.int .u64 (c : Int)) ∧ Hid (Box Z p TSt (sA ⟨s0.num, s0.v, a, b, c⟩ t0) ∧ Chg (fun k => k = p) W Z) := by
  have hc : Chg (fun k => k = p) W (((W.setCell ⟨p, 5, none⟩ (.int .u64 (a : Int))).setCell ⟨p, 6, none⟩ (.int .u64 (b : Int))).setCell ⟨p, 7, none⟩ (.int .u64 (c : Int))) := (((Chg.refl (fun k => k = p) W).set (fun _ => rfl) _ _).set (fun _ => rfl) _ _).set (fun _ => rfl) _ _
  refine ⟨_, rfl, Box.eq (((h.set 5 _).set 6 _).set 7 _) ?_, hc⟩
  simp [sA]
def toldN (n k : Nat) : Nat := if 0 < k then k else n
theorem told_any (n k : Nat) (w : World) : Calls Tryz.prog 91 #[.int .u64 (n : Int), .int .u64 (k : Int)] w fun e w' => e = .returned (.int .u64 ((toldN n k : Nat) : Int)) ∧ w' = w := by
  unfold toldN
  by_cases h : k = 0
  · subst h
    go_enter Tryz.func91, Tryz.ntmps91
    go_wp2
    go_ret
    exact ⟨rfl, rfl⟩
  · have hb : ((k : Int) == 0) = false := beq_eq_false_iff_ne.2 (by omega)
    rw [if_pos (by omega)]
    go_enter Tryz.func91, Tryz.ntmps91
    go_wp2
    go_ret
    exact ⟨rfl, rfl⟩
set_option maxRecDepth 100000 in
theorem numbers_any (s : PSt) (t : SV) (w : World) : Calls Tryz.prog 96 #[sV s t] w fun e w' => e = .returned (.agg #[.int .u64 (s.log : Int), .int .u64 (s.next : Int), .int .u64 (s.last : Int), .slice none 0 0, .slice none 0 0]) ∧ Below w.heap.size w w' := by
  have HB : Hid (∀ X Y : Obj, Below w.heap.size w ((w.alloc X).alloc Y)) := fun X Y => ((Below.refl _ _).alloc (Nat.le_refl _) _).alloc (by simp) _
  go_enter Tryz.func96, Tryz.ntmps96
  go_wp2
  exact bodyPost_ret (v := .agg #[.int .u64 (s.log : Int), .int .u64 (s.next : Int), .int .u64 (s.last : Int), .slice none 0 0, .slice none 0 0]) (by simp [results, Tryz.results96, go_sem]) rfl ⟨rfl, HB.out _ _⟩
def chkS (s : PSt) : Nat := if chkV s.v ≠ 0 then chkV s.v else if s.numE.err ≠ 0 then s.numE.err else if mayN s.num = true then 0 else 132
set_option maxRecDepth 100000 in
set_option maxHeartbeats 1000000 in
theorem checkState_any (s : PSt) (t : SV) (w : World) (h : VnAt w s.v t) (hw : WfV s.v) (hn : s.v.all.length < 65536) :
    Calls Tryz.prog 53 #[sV s t] w fun e w' => e = .returned (.int .i64 ((chkS s : Nat) : Int)) ∧ Below w.heap.size w w' := by
  obtain ⟨W0, hW0, HW⟩ : ∃ W0, W0 = w.alloc (.cells (sA s t) TSt) ∧ Hid (Below w.heap.size w W0 ∧ Box W0 w.heap.size TSt (sA s t) ∧ VnAt W0 s.v t) := ⟨_, rfl, (Below.refl _ _).alloc (Nat.le_refl _) _, Box.new _ _ _, h.below ((Below.refl _ _).alloc (Nat.le_refl _) _)⟩
  have HV : Hid (∀ W, W = w.alloc (.cells (sA s t) TSt) → Calls Tryz.prog 64 #[.agg #[.slice (t.a 0) (s.v 0).length (t.c 0), .slice (t.a 1) (s.v 1).length (t.c 1), .slice (t.a 2) (s.v 2).length (t.c 2), .slice (t.a 3) (s.v 3).length (t.c 3)]] W fun e w' => e = .returned (.int .i64 ((chkV s.v : Nat) : Int)) ∧ Below W0.heap.size W0 w') := fun W e => by
    subst e
    rw [← hW0]
    exact vcheck_any s.v t W0 HW.out.2.2 hw hn
  have HN : Hid (∀ W, Calls Tryz.prog 96 #[sV s t] W fun e w' => e = .returned (evV s.numE sz0) ∧ Below W.heap.size W w') := fun W => numbers_any s t W
  have HC : Hid (∀ W, Calls Tryz.prog 65 #[evV s.numE sz0] W fun e w' => e = .returned (.int .i64 ((s.numE.err : Nat) : Int)) ∧ Below W.heap.size W w') := fun W => echeck_any s.numE sz0 W ⟨GsAt.nil W, FlAt.nil W⟩ (fun f hf => by cases hf)
  have HM := fun W => may_any s.num W
  have HE : Hid (chkS s = if chkV s.v ≠ 0 then chkV s.v else if s.numE.err ≠ 0 then s.numE.err else if mayN s.num = true then 0 else 132) := rfl
  generalize chkV s.v = cv at *
  generalize s.numE.err = ce at *
  generalize mayN s.num = cm at *
  generalize chkS s = X at *
  unfold evV at HN HC
  clear h hw hn hW0
  go_enter Tryz.func53, Tryz.ntmps53
  go_wp2_with fail
  refine (HV.out _ rfl).mono ?_
  rintro _ w2 ⟨rfl, hb2⟩
  have H2 : Hid (Below w.heap.size w w2 ∧ Box w2 w.heap.size TSt (sA s t)) := ⟨HW.out.1.trans (hb2.mono HW.out.1.size), HW.out.2.1.kept (hb2.block _ HW.out.2.1.lt)⟩
  clear hb2
  by_cases h1 : cv = 0
  · subst h1
    obtain ⟨c0, c1, c2, c3, c4, c5, c6, c7⟩ := H2.out.2.eight
    go_wp2_with fail
    refine (HN.out _).mono ?_
    rintro _ w3 ⟨rfl, hb3⟩
    have H3 : Hid (Below w.heap.size w w3 ∧ Box w3 w.heap.size TSt (sA s t)) := ⟨H2.out.1.trans (hb3.mono H2.out.1.size), H2.out.2.kept (hb3.block _ H2.out.2.lt)⟩
    clear hb3 c0 c1 c2 c3 c4 c5 c6 c7
    go_wp2_with fail
    refine (HC.out _).mono ?_
    rintro _ w4 ⟨rfl, hb4⟩
    have H4 : Hid (Below w.heap.size w w4 ∧ Box w4 w.heap.size TSt (sA s t)) := ⟨H3.out.1.trans (hb4.mono H3.out.1.size), H3.out.2.kept (hb4.block _ H3.out.2.lt)⟩
    clear hb4
    by_cases h2 : ce = 0
    · subst h2
      have c0 := H4.out.2.eight.1
      go_wp2_with fail
      refine (HM _).mono ?_
      rintro _ w5 ⟨rfl, rfl⟩
      cases cm with
      | true =>
        go_wp2
        go_ret
        exact ⟨ret1 (by rw [HE.out]; rfl), H4.out.1⟩
      | false =>
        go_wp2
        go_ret
        exact ⟨ret1 (by rw [HE.out]; rfl), H4.out.1⟩
    · have hb : ((ce : Int) != 0) = true := by simp; omega
      have HX : Hid (X = ce) := by
        unfold Hid
        rw [HE.out, if_neg (by simp), if_pos h2]
      go_wp2
      go_ret
      exact ⟨ret1 (by rw [HX.out]; rfl), H4.out.1⟩
  · have hb : ((cv : Int) != 0) = true := by simp; omega
    have HX : Hid (X = cv) := by
      unfold Hid
      rw [HE.out, if_pos h1]
    go_wp2
    go_ret
    exact ⟨ret1 (by rw [HX.out]; rfl), H2.out.1⟩
end Go.Proofs.YtmlfbihlbiikeaaGreatDoor
