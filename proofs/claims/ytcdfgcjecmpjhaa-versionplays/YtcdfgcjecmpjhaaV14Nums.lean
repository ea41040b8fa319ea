/- The contract of version's Nums: all numbers, rising. -/
import Derived.Test.YtcdfgcjecmpjhaaV14Mem
import Derived.Test.YtcdfgcjecmpjhaaU14Pdq
namespace Go.Proofs.Ytcdfgcjecmpjhaa
open Go.RowKit
set_option linter.unusedVariables false
set_option linter.unusedSimpArgs false
/-- A row of the call's own, ahead of a sort. -/
theorem OwnU.ahead {w : World} {B g n c : Nat} {l : List Nat} (h : OwnU w B (some ⟨g, 0, none⟩) n c l) : Rw w w g 0 l.toArray ∧ g < w.heap.size ∧ l.toArray.size = n := by
  have hs := h.size
  rcases h.row.2 with ⟨hv, _⟩ | ⟨g', c', cur, hv, hB, hg, hn, hc, hz, ht⟩
  · cases hv
  · have eg : g' = g := by simp at hv; exact hv.1.symm
    subst eg
    have hb : Box w g' TU cur := hg
    refine ⟨⟨fun t ht' => ?_, fun t => hb.soft t, Chg.refl _ _, fun t arr ha => ⟨arr, ha, rfl⟩⟩, hb.lt, by simpa using hs⟩
    have htl : t < l.length := by simpa using ht'
    have h2 := h.row.cellAt t (by simp [hs] at *; omega)
    rw [Nat.zero_add, h2]
    simp [cellsU, htl]
theorem OwnU.behind {w w' : World} {B g n c : Nat} {l : List Nat} {d : Array Nat} (h : OwnU w B (some ⟨g, 0, none⟩) n c l) (hr : Rw w w' g 0 d) (hd : d.size = n) : OwnU w' B (some ⟨g, 0, none⟩) n c d.toList := by
  refine ⟨by simpa using hd, by simp [cellsU, hd], ?_⟩
  rcases h.row.2 with ⟨hv, _⟩ | ⟨g', c', cur, hv, hB, hg, hn, hc, hz, ht⟩
  · cases hv
  · have eg : g' = g ∧ c' = c := by simp at hv; exact ⟨hv.1.symm, hv.2.symm⟩
    obtain ⟨rfl, rfl⟩ := eg
    obtain ⟨arr, hb, hsz⟩ := hr.shape TU cur hg
    refine .inr ⟨g', c', arr, rfl, hB, hb, hn, hc, by rw [hsz]; exact hz, ?_⟩
    apply List.ext_getElem?
    intro i
    by_cases hi : i < n
    · have h3 := hr.cell i (by omega)
      rw [Nat.zero_add, hb.cell] at h3
      rw [List.getElem?_take, if_pos (by omega), Array.getElem?_toList, h3]
      simp [cellsU, hd, hi]
    · rw [List.getElem?_take, if_neg (by omega), eq_comm, List.getElem?_eq_none]
      simp [cellsU, hd]
      omega
set_option maxRecDepth 100000 in
set_option maxHeartbeats 2000000 in
theorem ins_nil (w : World) : Calls Try.prog 58 #[.slice none 0 0, .int .i64 0, .int .i64 0] w fun e w' => e = .returned (.tuple #[]) ∧ w = w' := by
  go_enter Try.func58, Try.ntmps58
  go_wp2
  go_loopg [6] 0 (fun kx s6 wr => s6 = .int .i64 1 ∧ wr = w)
  case atStart => exact ⟨rfl, rfl⟩
  case round =>
    obtain ⟨rfl, rfl⟩ := hrel
    go_wp2
    go_end0
    exact ⟨rfl, rfl⟩
set_option maxRecDepth 100000 in
set_option maxHeartbeats 2000000 in
theorem pdq_nil (lim : Nat) (w : World) : Calls Try.prog 50 #[.slice none 0 0, .int .i64 0, .int .i64 0, .int .i64 (lim : Int)] w fun e w' => e = .returned (.tuple #[]) ∧ w = w' := by
  go_enter Try.func50, Try.ntmps50
  go_wp2_with fail
  go_loopg [1, 2, 3, 8, 9] 0 (fun kx s1 s2 s3 s8 s9 wr => s1 = .int .i64 0 ∧ s2 = .int .i64 0 ∧ wr = w)
  case atStart => exact ⟨rfl, rfl, rfl⟩
  case round =>
    obtain ⟨rfl, rfl, rfl⟩ := hrel
    have hi := ins_nil wr
    go_wp2_with fail
    refine hi.mono ?_
    rintro _ w1 ⟨rfl, rfl⟩
    go_wp2_with fail
    (try simp only [Exit.inBlock, Exit.then])
    refine bodyPost_ret (results_none rfl _ _ _) rfl ?_
    exact ⟨rfl, rfl⟩
set_option maxRecDepth 100000 in
set_option maxHeartbeats 2000000 in
theorem sort_nil (w : World) : Calls Try.prog 39 #[.slice none 0 0] w fun e w' => e = .returned (.tuple #[]) ∧ w = w' := by
  have HL : Hid (Calls Try.prog 51 #[.int .u64 0] w fun e w' => e = .returned (.int .i64 ((Lib.bitLen 0 : Nat) : Int)) ∧ w = w') := len_at 0 (by omega) w
  have HP : Hid (∀ lim : Nat, Calls Try.prog 50 #[.slice none 0 0, .int .i64 0, .int .i64 0, .int .i64 (lim : Int)] w fun e w' => e = .returned (.tuple #[]) ∧ w = w') := fun lim => pdq_nil lim w
  generalize Lib.bitLen 0 = L at HL
  go_enter Try.func39, Try.ntmps39
  go_wp2_with fail
  refine Calls.mono HL.out ?_
  rintro _ w1 ⟨rfl, rfl⟩
  go_wp2_with fail
  refine Calls.mono (HP.out L) ?_
  rintro _ w2 ⟨rfl, rfl⟩
  go_wp2
  go_end0
  exact ⟨rfl, rfl⟩
/-- slices.Sort of a row of the call's own. -/
theorem sort_own {w : World} {B : Nat} {a : Option Addr} {n c : Nat} {l : List Nat} (h : OwnU w B a n c l) (hn : n < 65536) :
    Calls Try.prog 39 #[.slice a n c] w fun e w' => e = .returned (.tuple #[]) ∧ ∃ l', OwnU w' B a n c l' ∧ l'.Perm l ∧ l'.Pairwise (· ≤ ·) ∧ Chg (fun k => blkOf a = some k) w w' := by
  rcases h.row.2 with ⟨hv, h0⟩ | ⟨g, c', cur, hv, _⟩
  · simp only [Value.slice.injEq] at hv
    obtain ⟨rfl, rfl, rfl⟩ := hv
    have hl : l = [] := List.eq_nil_of_length_eq_zero h.size
    subst hl
    refine (sort_nil w).mono ?_
    rintro e w' ⟨rfl, rfl⟩
    exact ⟨rfl, [], h, List.Perm.refl _, List.Pairwise.nil, Chg.refl _ _⟩
  · simp only [Value.slice.injEq] at hv
    obtain ⟨rfl, _, rfl⟩ := hv
    obtain ⟨h1, h2, h3⟩ := h.ahead
    refine (sort_at g 0 c n l.toArray w h1 h2 h3 hn).mono ?_
    rintro e w' ⟨rfl, d, hr, hp, hs⟩
    have hd : d.size = n := hp.1.trans h3
    refine ⟨rfl, d.toList, h.behind hr hd, ?_, ?_, hr.chg.wide (fun k _ e => by rw [e]; rfl)⟩
    · have h4 := hp.2.2
      have e1 : d.extract 0 n = d := by rw [← hd]; simp
      have e2 : l.toArray.extract 0 n = l.toArray := by rw [← h3]; simp
      rw [e1, e2] at h4
      exact h4
    · rw [List.pairwise_iff_getElem]
      intro i j hi hj hij
      have h5 := hs i j (Nat.zero_le _) hij (by simpa [hd] using hj)
      have hi' : i < d.size := by simpa using hi
      have hj' : j < d.size := by simpa using hj
      simp only [lN, decide_eq_false_iff_not] at h5
      rw [getElem!_pos d i hi', getElem!_pos d j hj'] at h5
      simp only [Array.getElem_toList]
      omega
/-- The numbers of the levels ahead of one. -/
def accN (v : PV) (k : Nat) : List Nat := (List.range k).flatMap fun n => (v n).map PF.num
theorem accN_succ (v : PV) (k : Nat) : accN v (k + 1) = accN v k ++ (v k).map PF.num := by
  unfold accN
  rw [List.range_succ, List.flatMap_append]
  simp
theorem accN_four (v : PV) : accN v 4 = v.all.map PF.num := by
  rw [accN_succ, accN_succ, accN_succ, accN_succ]
  simp [accN, PV.all]
theorem accN_le {v : PV} {k : Nat} (hk : k < 4) : (accN v k).length + (v k).length ≤ v.all.length := by
  have h4 : (accN v 4).length = v.all.length := by rw [accN_four, List.length_map]
  rw [← h4]
  refine four (P := fun k => (accN v k).length + (v k).length ≤ (accN v 4).length) hk ?_ ?_ ?_ ?_
  all_goals simp only [accN_succ, List.length_append, List.length_map]
  all_goals omega
set_option maxRecDepth 100000 in
set_option maxHeartbeats 4000000 in
theorem nums_any (v : PV) (s : SV) (w : World) (h : VnAt w v s) (hn : v.all.length < 65536) :
    Calls Try.prog 21 #[.agg #[.slice (s.a 0) (v 0).length (s.c 0), .slice (s.a 1) (v 1).length (s.c 1), .slice (s.a 2) (v 2).length (s.c 2), .slice (s.a 3) (v 3).length (s.c 3)]] w fun e w' => ∃ (a : Option Addr) (n c : Nat) (l : List Nat), e = .returned (.slice a n c) ∧ OwnU w' w.heap.size a n c l ∧ l.Perm (v.all.map PF.num) ∧ l.Pairwise (· ≤ ·) ∧ Below w.heap.size w w' := by
  have HV : Hid (VnAt w v s) := h
  have HB0 : Hid (Below w.heap.size w (w.alloc (.cells (vA v s) TVn)) ∧ (w.alloc (.cells (vA v s) TVn)).heap.size = w.heap.size + 1) := ⟨(Below.refl _ _).alloc (Nat.le_refl _) _, by simp⟩
  have HN : Hid (v.all.length < 65536) := hn
  clear h hn
  go_enter Try.func21, Try.ntmps21
  go_wp2_with fail
  go_loopw [10, 3] (fun s10 s3 wr => ∃ (k : Nat) (a : Option Addr) (c : Nat), k ≤ 4 ∧ s10 = .int .i64 (k : Int) ∧ s3 = .slice a (accN v k).length c ∧ Hid (OwnU wr w.heap.size a (accN v k).length c (accN v k) ∧ Below w.heap.size w wr)) (fun s10 _ _ => 4 - (intOf s10).toNat)
  case atStart => exact ⟨0, none, 0, by omega, rfl, rfl, OwnU.nil _ _, HB0.out.1⟩
  case round =>
    obtain ⟨k, a, c, hk4, rfl, rfl, HI⟩ := hrel
    by_cases hk : k < 4
    · have hidx := idx_arr v s k hk
      have hle := accN_le (v := v) hk
      have hkI : (k : Int) < 4 := by omega
      have HKL : Hid (accN v (k + 1) = accN v k ++ (v k).map PF.num) := accN_succ v k
      have HFL : Hid (FlAt w (s.a k) (v k).length (s.c k) (v k)) := HV.out k hk
      have hmx := HFL.out.row.max
      have hlc := HFL.out.row.le
      have hall : v.all.length < 65536 := HN.out
      unfold maxLen at hmx
      generalize v k = lk at HKL HFL hle hmx hlc hidx
      generalize accN v k = ac at HI HKL hle
      generalize s.a k = ak at HFL hidx
      generalize s.c k = ck at HFL hidx hmx hlc
      go_wp2_with fail
      go_loopw [15, 3] (fun s15 s3 wq => ∃ (i : Nat) (a : Option Addr) (c : Nat), i ≤ lk.length ∧ s15 = .int .i64 (i : Int) ∧ s3 = .slice a (ac.length + i) c ∧ Hid (OwnU wq w.heap.size a (ac.length + i) c (ac ++ (lk.take i).map PF.num) ∧ Below w.heap.size w wq)) (fun s15 _ _ => lk.length - (intOf s15).toNat)
      case atStart => exact ⟨0, a, c, Nat.zero_le _, rfl, rfl, by simpa using HI.out.1, HI.out.2⟩
      case round =>
        obtain ⟨i, a', c', hil, rfl, rfl, HJ⟩ := hrel
        by_cases hi : i < lk.length
        · obtain ⟨b, o, hix, hblt, hcs⟩ := HFL.out.at hi
          obtain ⟨c0, c1, c2, c3, c4, c5, c6, c7, c8⟩ := hcs wr HJ.out.2
          have HTK : Hid (lk.take (i + 1) = lk.take i ++ [lk[i]]) := List.take_succ_eq_append_getElem hi
          clear hcs
          generalize lk[i] = f at c0 c1 c2 c3 c4 c5 c6 c7 c8 HTK
          have HW1 : Hid (OwnU ((wr.alloc (.cells (fA f) TF)).alloc (.cells #[.int .u64 (f.num : Int)] TU)) w.heap.size a' (ac.length + i) c' (ac ++ (lk.take i).map PF.num) ∧ Below w.heap.size w ((wr.alloc (.cells (fA f) TF)).alloc (.cells #[.int .u64 (f.num : Int)] TU)) ∧ UsAt ((wr.alloc (.cells (fA f) TF)).alloc (.cells #[.int .u64 (f.num : Int)] TU)) (some ⟨wr.heap.size + 1, 0, none⟩) 1 1 [f.num] ∧ w.heap.size ≤ ((wr.alloc (.cells (fA f) TF)).alloc (.cells #[.int .u64 (f.num : Int)] TU)).heap.size) := by
            have hB := (HJ.out.2.alloc HJ.out.2.size (.cells (fA f) TF)).alloc (Nat.le_trans HJ.out.2.size (by simp)) (.cells #[.int .u64 (f.num : Int)] TU)
            have h1 := UsAt.one (wr.alloc (.cells (fA f) TF)) f.num
            rw [World.size_alloc] at h1
            exact ⟨(HJ.out.1.alloc _).alloc _, hB, h1, hB.size⟩
          go_wp2_with (at_builtin; refine wpList_appU ((wr.alloc (.cells (fA f) TF)).alloc (.cells #[.int .u64 (f.num : Int)] TU)) rfl _ _ rfl w.heap.size a' (ac.length + i) c' (ac ++ (lk.take i).map PF.num) rfl HW1.out.1 (some ⟨wr.heap.size + 1, 0, none⟩) 1 1 [f.num] rfl HW1.out.2.2.1 (by omega) HW1.out.2.2.2 ?_; intro a2 c2' w2 ho2 hb2 hg2)
          have H2 : Hid (OwnU w2 w.heap.size a2 (ac.length + (i + 1)) c2' (ac ++ (lk.take (i + 1)).map PF.num) ∧ Below w.heap.size w w2) := by
            refine ⟨?_, HW1.out.2.1.trans hb2⟩
            rw [HTK.out, List.map_append, ← List.append_assoc]
            exact ho2
          clear ho2 hb2 hg2
          go_wp2
          go_roundw
          case rel => exact ⟨i + 1, a2, c2', hi, by go_num, rfl, H2.out⟩
          case measure => simp only [intOf]; omega
        · obtain rfl : i = lk.length := by omega
          go_wp2
          go_roundw
          case rel =>
            refine ⟨k + 1, a', c', hk, by go_num, by rw [HKL.out]; simp, ?_, HJ.out.2⟩
            rw [HKL.out]
            have := HJ.out.1
            rw [List.take_length] at this
            simpa using this
          case measure => simp only [intOf]; omega
    · obtain rfl : k = 4 := by omega
      have HA4 : Hid (accN v 4 = v.all.map PF.num ∧ (accN v 4).length < 65536) := ⟨accN_four v, by rw [accN_four, List.length_map]; exact HN.out⟩
      generalize accN v 4 = ac4 at HI HA4
      have hs := sort_own HI.out.1 HA4.out.2
      go_wp2_with fail
      refine hs.mono ?_
      rintro _ w2 ⟨rfl, l', ho, hp, hr, hch⟩
      have H2 : Hid (OwnU w2 w.heap.size a ac4.length c l' ∧ l'.Perm (v.all.map PF.num) ∧ l'.Pairwise (· ≤ ·) ∧ Below w.heap.size w w2) := ⟨ho, by rw [← HA4.out.1]; exact hp, hr, HI.out.2.trans (hch.below (fun k hk => HI.out.1.ge hk) HI.out.2.size)⟩
      clear ho hp hr hch hs
      go_wp2
      go_ret
      exact ⟨a, _, c, l', ret1 rfl, H2.out⟩
end Go.Proofs.Ytcdfgcjecmpjhaa
