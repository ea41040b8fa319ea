/- The contracts of version's levelsByNum and kept. -/
import Derived.Test.YtcdfgcjecmpjhaaV14Mem
import Derived.Test.YtcdfgcjecmpjhaaV14Map
namespace Go.Proofs.Ytcdfgcjecmpjhaa
open Go.RowKit
set_option linter.unusedVariables false
set_option linter.unusedSimpArgs false
/-- The map tells the levels of these files. -/
def Tells (m : Nat → Option Int) (l : List PF) : Prop := ∀ q x, m q = some x ↔ ∃ f ∈ l, f.num = q ∧ f.level = x
theorem Tells.put {m : Nat → Option Int} {l : List PF} (h : Tells m l) {f : PF} (hn : ∀ g ∈ l, g.num ≠ f.num) : Tells (fun p => if p = f.num then some f.level else m p) (l ++ [f]) := by
  intro q x
  by_cases e : q = f.num
  · subst e
    simp only [if_true, Option.some.injEq, List.mem_append, List.mem_singleton]
    constructor
    · intro hx
      exact ⟨f, .inr rfl, rfl, hx⟩
    · rintro ⟨g, hg | rfl, h1, h2⟩
      · exact absurd h1 (hn g hg)
      · exact h2
  · simp only [if_neg e, List.mem_append, List.mem_singleton]
    rw [h q x]
    constructor
    · rintro ⟨g, hg, h1⟩
      exact ⟨g, .inl hg, h1⟩
    · rintro ⟨g, hg | rfl, h1, h2⟩
      · exact ⟨g, hg, h1, h2⟩
      · exact absurd h1.symm e
/-- The files of the levels ahead of one. -/
def accF (v : PV) (k : Nat) : List PF := (List.range k).flatMap v
theorem accF_succ (v : PV) (k : Nat) : accF v (k + 1) = accF v k ++ v k := by
  unfold accF
  rw [List.range_succ, List.flatMap_append]
  simp
theorem accF_four (v : PV) : accF v 4 = v.all := by
  rw [accF_succ, accF_succ, accF_succ, accF_succ]
  simp [accF, PV.all]
theorem accF_pre {v : PV} {k i : Nat} (hk : k < 4) : ∃ r, v.all = (accF v k ++ (v k).take i) ++ (v k).drop i ++ r := by
  rw [← accF_four]
  refine four (P := fun k => ∃ r, accF v 4 = (accF v k ++ (v k).take i) ++ (v k).drop i ++ r) hk ?_ ?_ ?_ ?_
  all_goals simp only [accF_succ, List.append_assoc, List.take_append_drop]
  · exact ⟨v 1 ++ (v 2 ++ v 3), rfl⟩
  · exact ⟨v 2 ++ v 3, rfl⟩
  · exact ⟨v 3, rfl⟩
  · exact ⟨[], by simp⟩
theorem accF_new {v : PV} (h : VOk v) {k i : Nat} (hk : k < 4) (hi : i < (v k).length) : ∀ g ∈ accF v k ++ (v k).take i, g.num ≠ ((v k)[i]).num := by
  obtain ⟨r, hr⟩ := accF_pre (v := v) (i := i) hk
  have h1 := h.one
  rw [hr, List.drop_eq_getElem_cons hi] at h1
  simp only [List.map_append, List.map_cons, List.append_assoc, List.cons_append] at h1
  intro g hg e
  have h2 := (List.nodup_append.1 (by simpa using h1 : (List.map PF.num (accF v k) ++ (List.map PF.num ((v k).take i) ++ (((v k)[i]).num :: (List.map PF.num ((v k).drop (i + 1)) ++ List.map PF.num r)))).Nodup))
  rcases List.mem_append.1 hg with hg | hg
  · exact h2.2.2 g.num (List.mem_map.2 ⟨g, hg, rfl⟩) ((v k)[i]).num (by simp) e
  · have h3 := (List.nodup_append.1 h2.2.1).2.2
    exact h3 g.num (List.mem_map.2 ⟨g, hg, rfl⟩) ((v k)[i]).num (by simp) e
theorem VOk.wfU {v : PV} (h : VOk v) {f : PF} (hf : f ∈ v.all) : WfU f.num := by
  obtain ⟨n, hn, hfn⟩ := mem_all.1 hf
  obtain ⟨hg, _⟩ := PF.err_zero (h.level hn hfn).1
  obtain ⟨_, _, _, h4⟩ := gErr_zero hg
  unfold WfU
  omega
set_option maxRecDepth 100000 in
set_option maxHeartbeats 4000000 in
theorem levels_any (v : PV) (s : SV) (w : World) (h : VnAt w v s) (hV : VOk v) (hn : v.all.length < 65536) :
    Calls Try.prog 27 #[.agg #[.slice (s.a 0) (v 0).length (s.c 0), .slice (s.a 1) (v 1).length (s.c 1), .slice (s.a 2) (v 2).length (s.c 2), .slice (s.a 3) (v 3).length (s.c 3)]] w fun e w' => ∃ (b : Nat) (m : Nat → Option Int), e = .returned (.map (some b)) ∧ w.heap.size ≤ b ∧ MpL w' b v.all.length m ∧ Tells m v.all ∧ Below w.heap.size w w' := by
  have HV : Hid (VnAt w v s ∧ VOk v ∧ v.all.length < 65536) := ⟨h, hV, hn⟩
  have HB0 : Hid (Below w.heap.size w ((w.alloc (.cells (vA v s) TVn)).alloc (.map #[] 0)) ∧ MpL ((w.alloc (.cells (vA v s) TVn)).alloc (.map #[] 0)) (w.heap.size + 1) 0 (fun _ => none)) := by
    refine ⟨((Below.refl _ _).alloc (Nat.le_refl _) _).alloc (by simp) _, ?_⟩
    have := MpL.made (w.alloc (.cells (vA v s) TVn))
    rw [World.size_alloc] at this
    exact this
  clear h hV hn
  go_enter Try.func27, Try.ntmps27
  have hmm : ∀ w : World, (Instr.makeMap 57 none).run Try.prog w = .ok (.map (some w.heap.size)) (w.alloc (.map #[] 0)) := fun w => by kernel_rfl
  go_wp2_with fail
  go_loopw [11] (fun s11 wr => ∃ (k : Nat), k ≤ 4 ∧ s11 = .int .i64 (k : Int) ∧ Hid (Below w.heap.size w wr ∧ ∃ m, MpL wr (w.heap.size + 1) (accF v k).length m ∧ Tells m (accF v k))) (fun s11 _ => 4 - (intOf s11).toNat)
  case atStart => exact ⟨0, by omega, rfl, HB0.out.1, _, HB0.out.2, fun q x => by simp [accF]⟩
  case round =>
    obtain ⟨k, hk4, rfl, HI⟩ := hrel
    by_cases hk : k < 4
    · have hidx := idx_arr v s k hk
      have hkI : (k : Int) < 4 := by omega
      have HFL : Hid (FlAt w (s.a k) (v k).length (s.c k) (v k)) := HV.out.1 k hk
      have hmx := HFL.out.row.max
      have hlc := HFL.out.row.le
      unfold maxLen at hmx
      have HNW : Hid (∀ i (hi : i < (v k).length), (∀ g ∈ accF v k ++ (v k).take i, g.num ≠ ((v k)[i]).num) ∧ WfU ((v k)[i]).num ∧ ((v k)[i]).level = (k : Int) ∧ (accF v k).length + i < 65536) := fun i hi => by
        have hmem : (v k)[i] ∈ v.all := mem_all.2 ⟨k, hk, List.getElem_mem _⟩
        refine ⟨accF_new HV.out.2.1 hk hi, HV.out.2.1.wfU hmem, (HV.out.2.1.level hk (List.getElem_mem _)).2, ?_⟩
        obtain ⟨r, hr⟩ := accF_pre (v := v) (i := i) hk
        have h1 := congrArg List.length hr
        simp only [List.length_append, List.length_take, List.length_drop] at h1
        have := HV.out.2.2
        omega
      have HSC : Hid (accF v (k + 1) = accF v k ++ v k) := accF_succ v k
      generalize v k = lk at HFL HNW HSC hidx hmx hlc
      generalize accF v k = ac at HI HNW HSC
      generalize s.a k = ak at HFL hidx
      generalize s.c k = ck at HFL hidx hmx hlc
      go_wp2_with fail
      go_loopw [17] (fun s17 wq => ∃ (i : Nat), i ≤ lk.length ∧ s17 = .int .i64 (i : Int) ∧ Hid (Below w.heap.size w wq ∧ ∃ m, MpL wq (w.heap.size + 1) (ac.length + i) m ∧ Tells m (ac ++ lk.take i))) (fun s17 _ => lk.length - (intOf s17).toNat)
      case atStart =>
        obtain ⟨hb, m, hm, ht⟩ := HI.out
        exact ⟨0, Nat.zero_le _, rfl, hb, m, hm, by simpa using ht⟩
      case round =>
        obtain ⟨i, hil, rfl, HJ⟩ := hrel
        by_cases hi : i < lk.length
        · obtain ⟨b, o, hix, hblt, hcs⟩ := HFL.out.at hi
          obtain ⟨c0, c1, c2, c3, c4, c5, c6, c7, c8⟩ := hcs wr HJ.out.1
          have HTK : Hid (lk.take (i + 1) = lk.take i ++ [lk[i]]) := List.take_succ_eq_append_getElem hi
          have HNI := HNW.out i hi
          have HN2 : Hid ((∀ g ∈ ac ++ lk.take i, g.num ≠ (lk[i]).num) ∧ WfU (lk[i]).num ∧ (lk[i]).level = (k : Int) ∧ ac.length + i < 65536) := HNI
          clear hcs HNI
          generalize lk[i] = f at c0 c1 c2 c3 c4 c5 c6 c7 c8 HTK HN2
          obtain ⟨W1, e1, HW1⟩ : ∃ W1, W1 = wr.alloc (.cells (fA f) TF) ∧ Hid (Below w.heap.size w W1 ∧ ∃ m, MpL W1 (w.heap.size + 1) (ac.length + i) m ∧ Tells m (ac ++ lk.take i)) := by
            obtain ⟨hb, m, hm, ht⟩ := HJ.out
            exact ⟨_, rfl, hb.alloc hb.size _, m, hm.kept (Below.heap_alloc _ _ _ hm.lt), ht⟩
          obtain ⟨hb1, m, hm, ht⟩ := HW1.out
          obtain ⟨w2, hup, hm2, hch⟩ := hm.store HN2.out.2.1 (k : Int) (by have := HN2.out.2.2.2; omega)
          have H2 : Hid (Below w.heap.size w w2 ∧ ∃ m, MpL w2 (w.heap.size + 1) (ac.length + (i + 1)) m ∧ Tells m (ac ++ lk.take (i + 1))) := by
            refine ⟨hb1.trans (hch.below (fun k hk => by omega) hb1.size), _, hm2, ?_⟩
            rw [HTK.out, ← List.append_assoc, ← HN2.out.2.2.1]
            exact ht.put HN2.out.1
          have hup2 : (Instr.mapUpdate 57 (.map (some (w.heap.size + 1))) (.int .u64 (f.num : Int)) (.int .i64 (k : Int))).run Try.prog (wr.alloc (.cells #[.int .i64 f.level, .int .u64 (f.num : Int), .int .i64 f.size, .string f.small.user, .int .u64 (f.small.seq : Int), .int .i64 f.small.kind, .string f.large.user, .int .u64 (f.large.seq : Int), .int .i64 f.large.kind] TF)) = .ok () w2 := by
            rw [e1] at hup
            exact hup
          clear e1 HW1 hb1 hm ht hup hm2 hch
          go_wp2
          go_roundw
          case rel => exact ⟨i + 1, hi, by go_num, H2.out⟩
          case measure => simp only [intOf]; omega
        · obtain rfl : i = lk.length := by omega
          go_wp2
          go_roundw
          case rel =>
            obtain ⟨hb, m, hm, ht⟩ := HJ.out
            refine ⟨k + 1, hk, by go_num, hb, m, ?_, ?_⟩
            · rw [HSC.out, List.length_append]
              exact hm
            · rw [HSC.out]
              rw [List.take_length] at ht
              exact ht
          case measure => simp only [intOf]; omega
    · obtain rfl : k = 4 := by omega
      have HF : Hid (accF v 4 = v.all) := accF_four v
      generalize accF v 4 = ac4 at HI HF
      go_wp2
      go_ret
      obtain ⟨hb, m, hm, ht⟩ := HI.out
      rw [HF.out] at hm ht
      exact ⟨w.heap.size + 1, m, ret1 rfl, by omega, hm, ht, hb⟩
/-- The files whose numbers the map tells. -/
def keepF (m : Nat → Option Int) (l : List PF) : List PF := l.filter fun f => (m f.num).isSome
theorem keepF_snoc (m : Nat → Option Int) (l : List PF) (f : PF) : keepF m (l ++ [f]) = keepF m l ++ (if (m f.num).isSome = true then [f] else []) := by
  unfold keepF
  rw [List.filter_append]
  simp [List.filter_cons]
set_option maxRecDepth 100000 in
set_option maxHeartbeats 4000000 in
theorem kept_any (l : List PF) (a : Option Addr) (n c b N : Nat) (m : Nat → Option Int) (w : World) (h : FlAt w a n c l) (hm : MpL w b N m) (hw : ∀ f ∈ l, WfU f.num) (hn : n < 65536) :
    Calls Try.prog 28 #[.slice a n c, .map (some b)] w fun e w' => ∃ (a' : Option Addr) (c' : Nat), e = .returned (.slice a' (keepF m l).length c') ∧ OwnF w' w.heap.size a' (keepF m l).length c' (keepF m l) ∧ Below w.heap.size w w' ∧ (keepF m l = [] → a' = none) := by
  have HV : Hid (FlAt w a n c l ∧ MpL w b N m ∧ (∀ f ∈ l, WfU f.num) ∧ l.length = n) := ⟨h, hm, hw, h.size⟩
  have hmx := h.row.max
  have hlc := h.row.le
  unfold maxLen at hmx
  clear h hm hw
  go_enter Try.func28, Try.ntmps28
  go_wp2_with fail
  go_loopw [12, 5] (fun s12 s5 wr => ∃ (i k : Nat) (a' : Option Addr) (c' : Nat), i ≤ n ∧ k ≤ i ∧ (k = 0 → a' = none) ∧ s12 = .int .i64 (i : Int) ∧ s5 = .slice a' k c' ∧ Hid (OwnF wr w.heap.size a' k c' (keepF m (l.take i)) ∧ Below w.heap.size w wr)) (fun s12 _ _ => n - (intOf s12).toNat)
  case atStart => exact ⟨0, 0, none, 0, Nat.zero_le _, Nat.le_refl _, fun _ => rfl, rfl, rfl, OwnF.nil _ _, Below.refl _ _⟩
  case round =>
    obtain ⟨i, k, a', c', hin, hki, hk0, rfl, rfl, HI⟩ := hrel
    have HK0 : Hid (k = 0 → a' = none) := hk0
    clear hk0
    by_cases hi : i < n
    · have hil : i < l.length := by rw [HV.out.2.2.2]; exact hi
      obtain ⟨b', o, hix, hblt, hcs⟩ := HV.out.1.at hil
      obtain ⟨c0, c1, c2, c3, c4, c5, c6, c7, c8⟩ := hcs wr HI.out.2
      have HTK : Hid (l.take (i + 1) = l.take i ++ [l[i]] ∧ WfU (l[i]).num) := ⟨List.take_succ_eq_append_getElem hil, HV.out.2.2.1 _ (List.getElem_mem _)⟩
      clear hcs
      generalize l[i] = f at c0 c1 c2 c3 c4 c5 c6 c7 c8 HTK
      obtain ⟨W1, e1, HW1⟩ : ∃ W1, W1 = wr.alloc (.cells (fA f) TF) ∧ Hid (OwnF W1 w.heap.size a' k c' (keepF m (l.take i)) ∧ Below w.heap.size w W1 ∧ Box W1 wr.heap.size TF (fA f)) := ⟨_, rfl, HI.out.1.alloc _, HI.out.2.alloc HI.out.2.size _, Box.new _ _ _⟩
      have hM : MpL W1 b N m := HV.out.2.1.kept (HW1.out.2.1.block _ HV.out.2.1.lt)
      obtain ⟨x, q, hq, _, hlk⟩ := hM.look HTK.out.2
      have HQ : Hid (q = (m f.num).isSome) := hq
      rw [e1] at hlk
      have hlk2 : (Instr.lookup 57 (.map (some b)) (.int .u64 (f.num : Int)) true).run Try.prog (wr.alloc (.cells #[.int .i64 f.level, .int .u64 (f.num : Int), .int .i64 f.size, .string f.small.user, .int .u64 (f.small.seq : Int), .int .i64 f.small.kind, .string f.large.user, .int .u64 (f.large.seq : Int), .int .i64 f.large.kind] TF)) = .ok (.tuple #[.int .i64 x, .bool q]) (wr.alloc (.cells #[.int .i64 f.level, .int .u64 (f.num : Int), .int .i64 f.size, .string f.small.user, .int .u64 (f.small.seq : Int), .int .i64 f.small.kind, .string f.large.user, .int .u64 (f.large.seq : Int), .int .i64 f.large.kind] TF)) := hlk
      clear hM hq hlk
      cases q with
      | false =>
        have H2 : Hid (OwnF (wr.alloc (.cells (fA f) TF)) w.heap.size a' k c' (keepF m (l.take (i + 1))) ∧ Below w.heap.size w (wr.alloc (.cells (fA f) TF))) := by
          rw [HTK.out.1, keepF_snoc, ← HQ.out, if_neg (by decide), List.append_nil, ← e1]
          exact ⟨HW1.out.1, HW1.out.2.1⟩
        clear e1
        go_wp2
        go_roundw
        case rel => exact ⟨i + 1, k, a', c', hi, by omega, HK0.out, by go_num, rfl, H2.out⟩
        case measure => simp only [intOf]; omega
      | true =>
        have HW2 : Hid (OwnF (W1.alloc (.cells (fA f) TF)) w.heap.size a' k c' (keepF m (l.take i)) ∧ Below w.heap.size w (W1.alloc (.cells (fA f) TF)) ∧ FlAt (W1.alloc (.cells (fA f) TF)) (some ⟨wr.heap.size + 1, 0, none⟩) 1 1 [f] ∧ w.heap.size ≤ (W1.alloc (.cells (fA f) TF)).heap.size) := by
          have hB := HW1.out.2.1.alloc HW1.out.2.1.size (.cells (fA f) TF)
          have h1 := FlAt.one W1 f
          have h2 : W1.heap.size = wr.heap.size + 1 := by rw [e1]; simp
          rw [h2] at h1
          exact ⟨HW1.out.1.alloc _, hB, h1, hB.size⟩
        rw [e1] at HW2
        clear e1 HW1
        go_wp2_with (at_builtin; refine wpList_appFl ((wr.alloc (.cells (fA f) TF)).alloc (.cells (fA f) TF)) rfl _ _ rfl w.heap.size a' k c' (keepF m (l.take i)) rfl HW2.out.1 (some ⟨wr.heap.size + 1, 0, none⟩) 1 1 [f] rfl HW2.out.2.2.1 (by omega) HW2.out.2.2.2 ?_; intro a2 c2' w2 ho2 hb2 hg2)
        have H2 : Hid (OwnF w2 w.heap.size a2 (k + 1) c2' (keepF m (l.take (i + 1))) ∧ Below w.heap.size w w2) := by
          rw [HTK.out.1, keepF_snoc, ← HQ.out, if_pos rfl]
          exact ⟨ho2, HW2.out.2.1.trans hb2⟩
        clear ho2 hb2 hg2
        go_wp2
        go_roundw
        case rel => exact ⟨i + 1, k + 1, a2, c2', hi, by omega, fun h => by omega, by go_num, rfl, H2.out⟩
        case measure => simp only [intOf]; omega
    · have H2 : Hid (OwnF wr w.heap.size a' k c' (keepF m l) ∧ Below w.heap.size w wr) := by
        have := HI.out
        rw [List.take_of_length_le (by rw [HV.out.2.2.2]; omega)] at this
        exact this
      go_wp2
      go_ret
      have hsz := H2.out.1.size
      rw [hsz]
      exact ⟨a', c', ret1 rfl, H2.out.1, H2.out.2, fun h => HK0.out (by rw [← hsz, h]; rfl)⟩
end Go.Proofs.Ytcdfgcjecmpjhaa
