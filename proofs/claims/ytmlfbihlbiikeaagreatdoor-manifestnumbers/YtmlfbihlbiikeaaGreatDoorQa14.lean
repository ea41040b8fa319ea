/- The map of levels by numbers, in memory. -/
import Derived.Test.YtmlfbihlbiikeaaGreatDoorQa07
import Derived.Maps.OwnSet
import Derived.Maps.Views
import Derived.Test.YtmlfbihlbiikeaaGreatDoorQa01
namespace Go.Proofs.YtmlfbihlbiikeaaGreatDoor
open Go.RowKit
set_option linter.unusedVariables false
set_option linter.unusedSimpArgs false
abbrev TM : TypeId := 132
def intElem : Value → Option (DataW Unit × List MemPlace)
  | .int .i64 n => some (.lit (.int .i64 n), [])
  | _ => none
theorem intElem_inv {v : Value} {z : DataW Unit × List MemPlace} (h : intElem v = some z) : ∃ n : Int, v = .int .i64 n ∧ z = (.lit (.int .i64 n), []) := by
  unfold intElem at h
  split at h
  · exact ⟨_, rfl, (Option.some.inj h).symm⟩
  · cases h
theorem lawU : Maps.Keyed Tryz.prog TU := Maps.int_keyed Tryz.underlying23
abbrev litU (q : Nat) : Lit := .int .u64 (q : Int)
def WfU (q : Nat) : Prop := q < 18446744073709551616
theorem keyU {q : Nat} (h : WfU q) : keyOf Tryz.prog TU (.int .u64 (q : Int)) = some (litU q) := by
  refine Maps.keyOf_int_mk Tryz.underlying23 ?_
  unfold WfU at h
  simp [Lit.wf, IntKind.min, IntKind.max, IntKind.signed, IntKind.bits]
  omega
theorem litU_ne {p q : Nat} (h : p ≠ q) : litU p ≠ litU q := fun e => h (by simp at e; omega)
theorem zeroI (w : World) : (zeroValue 3).run Tryz.prog w = .ok (.int .i64 0) w := by kernel_rfl
theorem keyLitU (q : Nat) : WideAt.IsKeyLit (litU q) := trivial
def MpL (w : World) (b n : Nat) (f : Nat → Option Int) : Prop := ∃ D : DataW Unit, w.ownsMap Tryz.prog TU intElem b n D ∧ ∀ q, WfU q → Maps.has D (litU q) = (f q).isSome ∧ ∀ l, f q = some l → ∀ z, D.atKey (litU q) z = .lit (.int .i64 l)
section
variable {w w' : World} {b n : Nat} {f : Nat → Option Int}
theorem MpL.kept (h : MpL w b n f) (hk : w'.heap[b]? = w.heap[b]?) : MpL w' b n f := by
  obtain ⟨D, ⟨es, clock, hb, F, hs, hD⟩, h2⟩ := h
  exact ⟨D, ⟨es, clock, hk.trans hb, F, hs, hD⟩, h2⟩
theorem MpL.tag (h : MpL w b n f) : tag w b = some 1000 := by
  obtain ⟨D, ⟨es, clock, hb, _⟩, _⟩ := h
  simp [Go.Proofs.YtmlfbihlbiikeaaGreatDoor.tag, hb, tagOf]
theorem MpL.lt (h : MpL w b n f) : b < w.heap.size := tag_lt h.tag
theorem MpL.made (w : World) : MpL (w.alloc (.map #[] 0)) w.heap.size 0 (fun _ => none) := by
  refine ⟨.map [], World.ownsMap_made w Tryz.prog TU intElem, fun q _ => ⟨by simp [Maps.has], fun l hl => by cases hl⟩⟩
theorem MpL.look (h : MpL w b n f) {q : Nat} (hq : WfU q) : ∃ (x : Int) (c : Bool), c = (f q).isSome ∧ (∀ l, f q = some l → x = l) ∧ (Instr.lookup TM (.map (some b)) (.int .u64 (q : Int)) true).run Tryz.prog w = .ok (.tuple #[.int .i64 x, .bool c]) w := by
  obtain ⟨D, h1, h2⟩ := h
  obtain ⟨v, ps, hr, hv⟩ := h1.look_ok lawU Tryz.underlying132 (zeroI w) (zd := .lit (.int .i64 0)) (zp := []) rfl (keyU hq)
  obtain ⟨x, rfl, hx⟩ := intElem_inv hv
  refine ⟨x, _, (h2 q hq).1, fun l hl => ?_, hr⟩
  rw [(h2 q hq).2 l hl] at hx
  simp at hx
  exact hx.1.symm
theorem turned_chg (h : w.mapTurned w' b) : Chg (fun k => k = b) w w' := by
  have hg := h.grown
  exact (Chg.grown hg).wide (fun k _ e => (Option.some.inj e).symm)
theorem MpL.store (h : MpL w b n f) {q : Nat} (hq : WfU q) (l : Int) (hn : n < 1000000) : ∃ w', (Instr.mapUpdate TM (.map (some b)) (.int .u64 (q : Int)) (.int .i64 l)).run Tryz.prog w = .ok () w' ∧ MpL w' b (n + 1) (fun p => if p = q then some l else f p) ∧ Chg (fun k => k = b) w w' := by
  obtain ⟨D, h1, h2⟩ := h
  obtain ⟨w', hr, ho, ht⟩ := h1.store lawU Tryz.underlying132 (by unfold maxLen; omega) (keyU hq) (val := .int .i64 l) (d := .lit (.int .i64 l)) (ps := []) rfl
  refine ⟨w', hr, ⟨_, ho, fun p hp => ?_⟩, turned_chg ht⟩
  by_cases e : p = q
  · subst e
    simp only [if_true]
    rw [Maps.has_put_same h1.isMap (keyLitU p)]
    exact ⟨rfl, fun l' hl' z => by rw [Maps.atKey_put_same h1.isMap (keyLitU p), Option.some.inj hl']⟩
  · simp only [if_neg e]
    rw [Maps.has_put_other (litU_ne e)]
    exact ⟨(h2 p hp).1, fun l' hl' z => by rw [Maps.atKey_put_other (litU_ne e)]; exact (h2 p hp).2 l' hl' z⟩
theorem MpL.drop (h : MpL w b n f) {q : Nat} (hq : WfU q) (ty : TypeId) : ∃ w', (Builtin.delete_ #[TM, TU] ty #[.map (some b), .int .u64 (q : Int)]).run Tryz.prog w = .ok (.tuple #[]) w' ∧ MpL w' b n (fun p => if p = q then none else f p) ∧ Chg (fun k => k = b) w w' := by
  obtain ⟨D, h1, h2⟩ := h
  obtain ⟨w', hr, ho, ht⟩ := h1.drop lawU Tryz.underlying132 (keyU hq) ty
  refine ⟨w', hr, ⟨_, ho, fun p hp => ?_⟩, turned_chg ht⟩
  by_cases e : p = q
  · subst e
    simp only [if_true]
    rw [Maps.has_del_same]
    exact ⟨rfl, fun l' hl' => by cases hl'⟩
  · simp only [if_neg e]
    rw [Maps.has_del_other (litU_ne e)]
    exact ⟨(h2 p hp).1, fun l' hl' z => by rw [Maps.atKey_del_other (litU_ne e)]; exact (h2 p hp).2 l' hl' z⟩
end
end Go.Proofs.YtmlfbihlbiikeaaGreatDoor
namespace Go.Proofs.YtmlfbihlbiikeaaGreatDoor
open Go.RowKit
set_option linter.unusedVariables false
set_option linter.unusedSimpArgs false
def Tells (m : Nat → Option Int) (l : List PF) : Prop := ∀ q x, m q = some x ↔ ∃ f ∈ l, f.num = q ∧ f.level = x
theorem Tells.put {m : Nat → Option Int} {l : List PF} (h : Tells m l) {f : PF} (hn : ∀ g ∈ l, g.num ≠ f.num) : Tells (fun p => if p = f.num then some f.level else m p) (l ++ [f]) := by
  intro q x
  by_cases e : q = f.num
  · subst e
    simp only [if_true, Option.some.injEq, List.mem_append, List.mem_singleton]
    constructor
    · intro hx
      exact ⟨f, .inr rfl, rfl, hx⟩
    · rintro ⟨g, hg | rfl, h1, h2⟩
      · exact absurd h1 (hn g hg)
      · exact h2
  · simp only [if_neg e, List.mem_append, List.mem_singleton]
    rw [h q x]
    constructor
    · rintro ⟨g, hg, h1⟩
      exact ⟨g, .inl hg, h1⟩
    · rintro ⟨g, hg | rfl, h1, h2⟩
      · exact ⟨g, hg, h1, h2⟩
      · exact absurd h1.symm e
def accF (v : PV) (k : Nat) : List PF := (List.range k).flatMap v
theorem accF_succ (v : PV) (k : Nat) : accF v (k + 1) = accF v k ++ v k := by
  unfold accF
  rw [List.range_succ, List.flatMap_append]
  simp
theorem accF_four (v : PV) : accF v 4 = v.all := by
  rw [accF_succ, accF_succ, accF_succ, accF_succ]
  simp [accF, PV.all]
theorem accF_pre {v : PV} {k i : Nat} (hk : k < 4) : ∃ r, v.all = (accF v k ++ (v k).take i) ++ (v k).drop i ++ r := by
  rw [← accF_four]
  refine four (P := fun k => ∃ r, accF v 4 = (accF v k ++ (v k).take i) ++ (v k).drop i ++ r) hk ?_ ?_ ?_ ?_
  all_goals simp only [accF_succ, List.append_assoc, List.take_append_drop]
  · exact ⟨v 1 ++ (v 2 ++ v 3), rfl⟩
  · exact ⟨v 2 ++ v 3, rfl⟩
  · exact ⟨v 3, rfl⟩
  · exact ⟨[], by simp⟩
theorem accF_new {v : PV} (h : VOk v) {k i : Nat} (hk : k < 4) (hi : i < (v k).length) : ∀ g ∈ accF v k ++ (v k).take i, g.num ≠ ((v k)[i]).num := by
  obtain ⟨r, hr⟩ := accF_pre (v := v) (i := i) hk
  have h1 := h.one
  rw [hr, List.drop_eq_getElem_cons hi] at h1
  simp only [List.map_append, List.map_cons, List.append_assoc, List.cons_append] at h1
  intro g hg e
  have h2 := (List.nodup_append.1 (by simpa using h1 : (List.map PF.num (accF v k) ++ (List.map PF.num ((v k).take i) ++ (((v k)[i]).num :: (List.map PF.num ((v k).drop (i + 1)) ++ List.map PF.num r)))).Nodup))
  rcases List.mem_append.1 hg with hg | hg
  · exact h2.2.2 g.num (List.mem_map.2 ⟨g, hg, rfl⟩) ((v k)[i]).num (by simp) e
  · have h3 := (List.nodup_append.1 h2.2.1).2.2
    exact h3 g.num (List.mem_map.2 ⟨g, hg, rfl⟩) ((v k)[i]).num (by simp) e
theorem VOk.wfU {v : PV} (h : VOk v) {f : PF} (hf : f ∈ v.all) : WfU f.num := by
  obtain ⟨n, hn, hfn⟩ := mem_all.1 hf
  obtain ⟨hg, _⟩ := PF.err_zero (h.level hn hfn).1
  obtain ⟨_, _, _, h4⟩ := gErr_zero hg
  unfold WfU
  omega
set_option maxRecDepth 100000 in
set_option maxHeartbeats 4000000 in
theorem levels_any (v : PV) (s : SV) (w : World) (h : VnAt w v s) (hV : VOk v) (hn : v.all.length < 65536) :
    Calls Tryz.prog 66 #[.agg #[.slice (s.a 0) (v 0).length (s.c 0), .slice (s.a 1) (v 1).length (s.c 1), .slice (s.a 2) (v 2).length (s.c 2), .slice (s.a 3) (v 3).length (s.c 3)]] w fun e w' => ∃ (b : Nat) (m : Nat → Option Int), e = .returned (.map (some b)) ∧ w.heap.size ≤ b ∧ MpL w' b v.all.length m ∧ Tells m v.all ∧ Below w.heap.size w w' := by
  have HV : Hid (VnAt w v s ∧ VOk v ∧ v.all.length < 65536) := ⟨h, hV, hn⟩
  have HB0 : Hid (Below w.heap.size w ((w.alloc (.cells (vA v s) TVn)).alloc (.map #[] 0)) ∧ MpL ((w.alloc (.cells (vA v s) TVn)).alloc (.map #[] 0)) (w.heap.size + 1) 0 (fun _ => none)) := by
    refine ⟨((Below.refl _ _).alloc (Nat.le_refl _) _).alloc (by simp) _, ?_⟩
    have := MpL.made (w.alloc (.cells (vA v s) TVn))
    rw [World.size_alloc] at this
    exact this
  clear h hV hn
  go_enter Tryz.func66, Tryz.ntmps66
  have hmm : ∀ w : World, (Instr.makeMap 132 none).run Tryz.prog w = .ok (.map (some w.heap.size)) (w.alloc (.map #[] 0)) := fun w => by kernel_rfl
  go_wp2_with fail
  go_loopw [11] (fun s11 wr => ∃ (k : Nat), k ≤ 4 ∧ s11 = .int .i64 (k : Int) ∧ Hid (Below w.heap.size w wr ∧ ∃ m, MpL wr (w.heap.size + 1) (accF v k).length m ∧ Tells m (accF v k))) (fun s11 _ => 4 - (intOf s11).toNat)
  case atStart => exact ⟨0, by omega, rfl, HB0.out.1, _, HB0.out.2, fun q x => by simp [accF]⟩
  case round =>
    obtain ⟨k, hk4, rfl, HI⟩ := hrel
    by_cases hk : k < 4
    · have hidx := idx_arr v s k hk
      have hkI : (k : Int) < 4 := by omega
      have HFL : Hid (FlAt w (s.a k) (v k).length (s.c k) (v k)) := HV.out.1 k hk
      have hmx := HFL.out.row.max
      have hlc := HFL.out.row.le
      unfold maxLen at hmx
      have HNW : Hid (∀ i (hi : i < (v k).length), (∀ g ∈ accF v k ++ (v k).take i, g.num ≠ ((v k)[i]).num) ∧ WfU ((v k)[i]).num ∧ ((v k)[i]).level = (k : Int) ∧ (accF v k).length + i < 65536) := fun i hi => by
        have hmem : (v k)[i] ∈ v.all := mem_all.2 ⟨k, hk, List.getElem_mem _⟩
        refine ⟨accF_new HV.out.2.1 hk hi, HV.out.2.1.wfU hmem, (HV.out.2.1.level hk (List.getElem_mem _)).2, ?_⟩
        obtain ⟨r, hr⟩ := accF_pre (v := v) (i := i) hk
        have h1 := congrArg List.length hr
        simp only [List.length_append, List.length_take, List.length_drop] at h1
        have := HV.out.2.2
        omega
      have HSC : Hid (accF v (k + 1) = accF v k ++ v k) := accF_succ v k
      generalize v k = lk at HFL HNW HSC hidx hmx hlc
      generalize accF v k = ac at HI HNW HSC
      generalize s.a k = ak at HFL hidx
      generalize s.c k = ck at HFL hidx hmx hlc
      go_wp2_with fail
      go_loopw [17] (fun s17 wq => ∃ (i : Nat), i ≤ lk.length ∧ s17 = .int .i64 (i : Int) ∧ Hid (Below w.heap.size w wq ∧ ∃ m, MpL wq (w.heap.size + 1) (ac.length + i) m ∧ Tells m (ac ++ lk.take i))) (fun s17 _ => lk.length - (intOf s17).toNat)
      case atStart =>
        obtain ⟨hb, m, hm, ht⟩ := HI.out
        exact ⟨0, Nat.zero_le _, rfl, hb, m, hm, by simpa using ht⟩
      case round =>
        obtain ⟨i, hil, rfl, HJ⟩ := hrel
        by_cases hi : i < lk.length
        · obtain ⟨b, o, hix, hblt, hcs⟩ := HFL.out.at hi
          obtain ⟨c0, c1, c2, c3, c4, c5, c6, c7, c8⟩ := hcs wr HJ.out.1
          have HTK : Hid (lk.take (i + 1) = lk.take i ++ [lk[i]]) := List.take_succ_eq_append_getElem hi
          have HNI := HNW.out i hi
          have HN2 : Hid ((∀ g ∈ ac ++ lk.take i, g.num ≠ (lk[i]).num) ∧ WfU (lk[i]).num ∧ (lk[i]).level = (k : Int) ∧ ac.length + i < 65536) := HNI
          clear hcs HNI
          generalize lk[i] = f at c0 c1 c2 c3 c4 c5 c6 c7 c8 HTK HN2
          obtain ⟨W1, e1, HW1⟩ : ∃ W1, W1 = wr.alloc (.cells (fA f) TF) ∧ Hid (Below w.heap.size w W1 ∧ ∃ m, MpL W1 (w.heap.size + 1) (ac.length + i) m ∧ Tells m (ac ++ lk.take i)) := by
            obtain ⟨hb, m, hm, ht⟩ := HJ.out
            exact ⟨_, rfl, hb.alloc hb.size _, m, hm.kept (Below.heap_alloc _ _ _ hm.lt), ht⟩
          obtain ⟨hb1, m, hm, ht⟩ := HW1.out
          obtain ⟨w2, hup, hm2, hch⟩ := hm.store HN2.out.2.1 (k : Int) (by have := HN2.out.2.2.2; omega)
          have H2 : Hid (Below w.heap.size w w2 ∧ ∃ m, MpL w2 (w.heap.size + 1) (ac.length + (i + 1)) m ∧ Tells m (ac ++ lk.take (i + 1))) := by
            refine ⟨hb1.trans (hch.below (fun k hk => by omega) hb1.size), _, hm2, ?_⟩
            rw [HTK.out, ← List.append_assoc, ← HN2.out.2.2.1]
            exact ht.put HN2.out.1
          have hup2 : (Instr.mapUpdate 132 (.map (some (w.heap.size + 1))) (.int .u64 (f.num : Int)) (.int .i64 (k : Int))).run Tryz.prog (wr.alloc (.cells #[.int .i64 f.level, .int .u64 (f.num : Int), .int .i64 f.size, .string f.small.user, .int .u64 (f.small.seq : Int), .int .i64 f.small.kind, .string f.large.user, .int .u64 (f.large.seq : Int), .int .i64 f.large.kind] TF)) = .ok () w2 := by
            rw [e1] at hup
            exact hup
          clear e1 HW1 hb1 hm ht hup hm2 hch
          go_wp2
          go_roundw
          case rel => exact ⟨i + 1, hi, by go_num, H2.out⟩
          case measure => simp only [intOf]; omega
        · obtain rfl : i = lk.length := by omega
          go_wp2
          go_roundw
          case rel =>
            obtain ⟨hb, m, hm, ht⟩ := HJ.out
            refine ⟨k + 1, hk, by go_num, hb, m, ?_, ?_⟩
            · rw [HSC.out, List.length_append]
              exact hm
            · rw [HSC.out]
              rw [List.take_length] at ht
              exact ht
          case measure => simp only [intOf]; omega
    · obtain rfl : k = 4 := by omega
      have HF : Hid (accF v 4 = v.all) := accF_four v
      generalize accF v 4 = ac4 at HI HF
      go_wp2
      go_ret
      obtain ⟨hb, m, hm, ht⟩ := HI.out
      rw [HF.out] at hm ht
      exact ⟨w.heap.size + 1, m, ret1 rfl, by omega, hm, ht, hb⟩
def keepF (m : Nat → Option Int) (l : List PF) : List PF := l.filter fun f => (m f.num).isSome
theorem keepF_snoc (m : Nat → Option Int) (l : List PF) (f : PF) : keepF m (l ++ [f]) = keepF m l ++ (if (m f.num).isSome = true then [f] else []) := by
  unfold keepF
  rw [List.filter_append]
  simp [List.filter_cons]
set_option maxRecDepth 100000 in
set_option maxHeartbeats 4000000 in
theorem kept_any (l : List PF) (a : Option Addr) (n c b N : Nat) (m : Nat → Option Int) (w : World) (h : FlAt w a n c l) (hm : MpL w b N m) (hw : ∀ f ∈ l, WfU f.num) (hn : n < 65536) :
    Calls Tryz.prog 67 #[.slice a n c, .map (some b)] w fun e w' => ∃ (a' : Option Addr) (c' : Nat), e = .returned (.slice a' (keepF m l).length c') ∧ OwnF w' w.heap.size a' (keepF m l).length c' (keepF m l) ∧ Below w.heap.size w w' ∧ (keepF m l = [] → a' = none) := by
  have HV : Hid (FlAt w a n c l ∧ MpL w b N m ∧ (∀ f ∈ l, WfU f.num) ∧ l.length = n) := ⟨h, hm, hw, h.size⟩
  have hmx := h.row.max
  have hlc := h.row.le
  unfold maxLen at hmx
  clear h hm hw
  go_enter Tryz.func67, Tryz.ntmps67
  go_wp2_with fail
  go_loopw [12, 5] (fun s12 s5 wr => ∃ (i k : Nat) (a' : Option Addr) (c' : Nat), i ≤ n ∧ k ≤ i ∧ (k = 0 → a' = none) ∧ s12 = .int .i64 (i : Int) ∧ s5 = .slice a' k c' ∧ Hid (OwnF wr w.heap.size a' k c' (keepF m (l.take i)) ∧ Below w.heap.size w wr)) (fun s12 _ _ => n - (intOf s12).toNat)
  case atStart => exact ⟨0, 0, none, 0, Nat.zero_le _, Nat.le_refl _, fun _ => rfl, rfl, rfl, OwnF.nil _ _, Below.refl _ _⟩
  case round =>
    obtain ⟨i, k, a', c', hin, hki, hk0, rfl, rfl, HI⟩ := hrel
    have HK0 : Hid (k = 0 → a' = none) := hk0
    clear hk0
    by_cases hi : i < n
    · have hil : i < l.length := by rw [HV.out.2.2.2]; exact hi
      obtain ⟨b', o, hix, hblt, hcs⟩ := HV.out.1.at hil
      obtain ⟨c0, c1, c2, c3, c4, c5, c6, c7, c8⟩ := hcs wr HI.out.2
      have HTK : Hid (l.take (i + 1) = l.take i ++ [l[i]] ∧ WfU (l[i]).num) := ⟨List.take_succ_eq_append_getElem hil, HV.out.2.2.1 _ (List.getElem_mem _)⟩
      clear hcs
      generalize l[i] = f at c0 c1 c2 c3 c4 c5 c6 c7 c8 HTK
      obtain ⟨W1, e1, HW1⟩ : ∃ W1, W1 = wr.alloc (.cells (fA f) TF) ∧ Hid (OwnF W1 w.heap.size a' k c' (keepF m (l.take i)) ∧ Below w.heap.size w W1 ∧ Box W1 wr.heap.size TF (fA f)) := ⟨_, rfl, HI.out.1.alloc _, HI.out.2.alloc HI.out.2.size _, Box.new _ _ _⟩
      have hM : MpL W1 b N m := HV.out.2.1.kept (HW1.out.2.1.block _ HV.out.2.1.lt)
      obtain ⟨x, q, hq, _, hlk⟩ := hM.look HTK.out.2
      have HQ : Hid (q = (m f.num).isSome) := hq
      rw [e1] at hlk
      have hlk2 : (Instr.lookup 132 (.map (some b)) (.int .u64 (f.num : Int)) true).run Tryz.prog (wr.alloc (.cells #[.int .i64 f.level, .int .u64 (f.num : Int), .int .i64 f.size, .string f.small.user, .int .u64 (f.small.seq : Int), .int .i64 f.small.kind, .string f.large.user, .int .u64 (f.large.seq : Int), .int .i64 f.large.kind] TF)) = .ok (.tuple #[.int .i64 x, .bool q]) (wr.alloc (.cells #[.int .i64 f.level, .int .u64 (f.num : Int), .int .i64 f.size, .string f.small.user, .int .u64 (f.small.seq : Int), .int .i64 f.small.kind, .string f.large.user, .int .u64 (f.large.seq : Int), .int .i64 f.large.kind] TF)) := hlk
      clear hM hq hlk
      cases q with
      | false =>
        have H2 : Hid (OwnF (wr.alloc (.cells (fA f) TF)) w.heap.size a' k c' (keepF m (l.take (i + 1))) ∧ Below w.heap.size w (wr.alloc (.cells (fA f) TF))) := by
          rw [HTK.out.1, keepF_snoc, ← HQ.out, if_neg (by decide), List.append_nil, ← e1]
          exact ⟨HW1.out.1, HW1.out.2.1⟩
        clear e1
        go_wp2
        go_roundw
        case rel => exact ⟨i + 1, k, a', c', hi, by omega, HK0.out, by go_num, rfl, H2.out⟩
        case measure => simp only [intOf]; omega
      | true =>
        have HW2 : Hid (OwnF (W1.alloc (.cells (fA f) TF)) w.heap.size a' k c' (keepF m (l.take i)) ∧ Below w.heap.size w (W1.alloc (.cells (fA f) TF)) ∧ FlAt (W1.alloc (.cells (fA f) TF)) (some ⟨wr.heap.size + 1, 0, none⟩) 1 1 [f] ∧ w.heap.size ≤ (W1.alloc (.cells (fA f) TF)).heap.size) := by
          have hB := HW1.out.2.1.alloc HW1.out.2.1.size (.cells (fA f) TF)
          have h1 := FlAt.one W1 f
          have h2 : W1.heap.size = wr.heap.size + 1 := by rw [e1]; simp
          rw [h2] at h1
          exact ⟨HW1.out.1.alloc _, hB, h1, hB.size⟩
        rw [e1] at HW2
        clear e1 HW1
        go_wp2_with (at_builtin; refine wpList_appFl ((wr.alloc (.cells (fA f) TF)).alloc (.cells (fA f) TF)) rfl _ _ rfl w.heap.size a' k c' (keepF m (l.take i)) rfl HW2.out.1 (some ⟨wr.heap.size + 1, 0, none⟩) 1 1 [f] rfl HW2.out.2.2.1 (by omega) HW2.out.2.2.2 ?_; intro a2 c2' w2 ho2 hb2 hg2)
        have H2 : Hid (OwnF w2 w.heap.size a2 (k + 1) c2' (keepF m (l.take (i + 1))) ∧ Below w.heap.size w w2) := by
          rw [HTK.out.1, keepF_snoc, ← HQ.out, if_pos rfl]
          exact ⟨ho2, HW2.out.2.1.trans hb2⟩
        clear ho2 hb2 hg2
        go_wp2
        go_roundw
        case rel => exact ⟨i + 1, k + 1, a2, c2', hi, by omega, fun h => by omega, by go_num, rfl, H2.out⟩
        case measure => simp only [intOf]; omega
    · have H2 : Hid (OwnF wr w.heap.size a' k c' (keepF m l) ∧ Below w.heap.size w wr) := by
        have := HI.out
        rw [List.take_of_length_le (by rw [HV.out.2.2.2]; omega)] at this
        exact this
      go_wp2
      go_ret
      have hsz := H2.out.1.size
      rw [hsz]
      exact ⟨a', c', ret1 rfl, H2.out.1, H2.out.2, fun h => HK0.out (by rw [← hsz, h]; rfl)⟩
end Go.Proofs.YtmlfbihlbiikeaaGreatDoor
namespace Go.Proofs.YtmlfbihlbiikeaaGreatDoor
open Go.RowKit
set_option linter.unusedVariables false
set_option linter.unusedSimpArgs false
theorem VOk.same {v : PV} (h : VOk v) {f g : PF} (hf : f ∈ v.all) (hg : g ∈ v.all) (e : g.num = f.num) : f = g := by
  apply Classical.byContradiction
  intro hne
  exact (h.compat hf hg hne).1 e
theorem Tells.congr {m : Nat → Option Int} {l l' : List PF} (h : Tells m l) (he : ∀ f, f ∈ l ↔ f ∈ l') : Tells m l' := by
  intro q x
  rw [h q x]
  constructor
  · rintro ⟨f, hf, h1⟩
    exact ⟨f, (he f).1 hf, h1⟩
  · rintro ⟨f, hf, h1⟩
    exact ⟨f, (he f).2 hf, h1⟩
theorem Tells.isSome {m : Nat → Option Int} {l : List PF} (h : Tells m l) (q : Nat) : (m q).isSome = true ↔ ∃ f ∈ l, f.num = q := by
  rw [Option.isSome_iff_exists]
  constructor
  · rintro ⟨x, hx⟩
    obtain ⟨f, hf, h1, _⟩ := (h q x).1 hx
    exact ⟨f, hf, h1⟩
  · rintro ⟨f, hf, h1⟩
    exact ⟨f.level, (h q f.level).2 ⟨f, hf, h1, rfl⟩⟩
theorem del_yes {u : PV} (hu : VOk u) {m : Nat → Option Int} (ht : Tells m u.all) {d : PG} (hd : d.err = 0) (hm : m d.num = some d.level) : ∃ u', delV u d = some u' ∧ Tells (fun p => if p = d.num then none else m p) u'.all ∧ VOk u' ∧ ∀ g ∈ u'.all, g ∈ u.all := by
  obtain ⟨f, hf, h1, h2⟩ := (ht d.num d.level).1 hm
  cases hx : delV u d with
  | none => exact absurd ⟨h1, h2⟩ (delV_none hu hd hx f hf)
  | some u' =>
    obtain ⟨k1, _, k3⟩ := delV_some hu hd hx
    refine ⟨u', rfl, fun q x => ?_, k1, fun g hg => ((k3 g).1 hg).1⟩
    by_cases e : q = d.num
    · subst e
      simp only [if_true]
      constructor
      · intro hc
        cases hc
      · rintro ⟨g, hg, hg1, hg2⟩
        have hg' := (k3 g).1 hg
        have := hu.same hf hg'.1 (by rw [hg1, h1])
        subst this
        exact absurd ⟨h1, h2⟩ hg'.2
    · simp only [if_neg e]
      rw [ht q x]
      constructor
      · rintro ⟨g, hg, hg1, hg2⟩
        exact ⟨g, (k3 g).2 ⟨hg, fun hm => e (by rw [← hg1, hm.1])⟩, hg1, hg2⟩
      · rintro ⟨g, hg, hg1⟩
        exact ⟨g, ((k3 g).1 hg).1, hg1⟩
theorem del_no {u : PV} (hu : VOk u) {m : Nat → Option Int} (ht : Tells m u.all) {d : PG} (hd : d.err = 0) (hm : m d.num ≠ some d.level) : delV u d = none := by
  cases hx : delV u d with
  | none => rfl
  | some u' =>
    obtain ⟨_, ⟨f, hf, h1, h2⟩, _⟩ := delV_some hu hd hx
    exact absurd ((ht d.num d.level).2 ⟨f, hf, h1, h2⟩) hm
theorem keep_eq {v u : PV} (hv : VOk v) (hu : VOk u) (hs : ∀ g ∈ u.all, g ∈ v.all) {m : Nat → Option Int} (ht : Tells m u.all) {n : Nat} (hn : n < 4) : keepF m (v n) = u n := by
  refine row_ext (R := ahead n) ((hv.lv n hn).row.sublist List.filter_sublist) (hu.lv n hn).row (fun x hx y hy => ?_) (fun f => ?_)
  · have hx' := (List.mem_filter.1 hx).1
    have hy' := (List.mem_filter.1 hy).1
    exact ahead_asym (hv.level hn hx').1 (hv.level hn hy').1
  · unfold keepF
    rw [List.mem_filter, ht.isSome]
    constructor
    · rintro ⟨hf, g, hg, e⟩
      have := hv.same (mem_all.2 ⟨n, hn, hf⟩) (hs g hg) e
      subst this
      obtain ⟨k, hk, hgk⟩ := mem_all.1 hg
      have h1 := (hv.level hn hf).2
      have h2 := (hu.level hk hgk).2
      obtain rfl : n = k := by omega
      exact hgk
    · intro hf
      have hfa : f ∈ u.all := mem_all.2 ⟨n, hn, hf⟩
      refine ⟨?_, f, hfa, rfl⟩
      obtain ⟨k, hk, hfk⟩ := mem_all.1 (hs f hfa)
      have h1 := (hu.level hn hf).2
      have h2 := (hv.level hk hfk).2
      obtain rfl : n = k := by omega
      exact hfk
theorem add_same {u : PV} {m : Nat → Option Int} (ht : Tells m u.all) {f : PF} (hm : (m f.num).isSome = true) : addE u f = 142 := by
  obtain ⟨g, hg, e⟩ := (ht.isSome f.num).1 hm
  unfold addE
  rw [if_pos]
  simp only [List.any_eq_true, decide_eq_true_eq]
  exact ⟨g, hg, e⟩
theorem add_new {u : PV} {m : Nat → Option Int} (ht : Tells m u.all) {f : PF} (hm : (m f.num).isSome = false) : ∀ g ∈ u.all, g.num ≠ f.num := fun g hg e => by
  have := (ht.isSome f.num).2 ⟨g, hg, e⟩
  rw [hm] at this
  cases this
theorem add_zero {u : PV} (hu : VOk u) {m : Nat → Option Int} (ht : Tells m u.all) {f : PF} (hf : f.err = 0) (hm : (m f.num).isSome = false) (hc : ∀ g ∈ u f.level.toNat, ahead f.level.toNat f g ∨ ahead f.level.toNat g f) : addE u f = 0 ∧ VOk (addV u f) ∧ Tells (fun p => if p = f.num then some f.level else m p) (addV u f).all := by
  have hnew := add_new ht hm
  obtain ⟨hn, hl⟩ := lev_nat hf
  have hfit : Fits u f f.level.toNat := by
    refine ⟨hf, hl, hnew, fun h0 g hg => ?_⟩
    have := hc g hg
    unfold ahead at this
    rw [if_neg h0, if_neg h0] at this
    exact this
  refine ⟨(addE_fits hu hf).2 hfit, hu.add hn hfit, ?_⟩
  refine (ht.put hnew).congr (fun g => ?_)
  rw [addV_all hf, List.mem_append, List.mem_singleton]
  exact Or.comm
theorem add_over {u : PV} (hu : VOk u) {m : Nat → Option Int} (ht : Tells m u.all) {f : PF} (hf : f.err = 0) (hm : (m f.num).isSome = false) (hc : ¬ ∀ g ∈ u f.level.toNat, ahead f.level.toNat f g ∨ ahead f.level.toNat g f) : addE u f = 143 := by
  have hnew := add_new ht hm
  obtain ⟨hn, hl⟩ := lev_nat hf
  have h0 : f.level.toNat ≠ 0 := fun h0 => hc (fun g hg => by
    have := hnew g (mem_all.2 ⟨_, hn, hg⟩)
    unfold ahead
    rw [if_pos h0, if_pos h0]
    omega)
  unfold addE
  rw [if_neg, if_pos]
  · refine ⟨by omega, ?_⟩
    apply Classical.byContradiction
    intro hno
    apply hc
    intro g hg
    unfold ahead
    rw [if_neg h0, if_neg h0]
    refine (hasU_no hf (hu.level hn hg).1).1 ?_
    cases hx : hasU g f.small.user f.large.user with
    | false => rfl
    | true =>
      exfalso
      apply hno
      simp only [List.any_eq_true]
      exact ⟨g, hg, hx⟩
  · simp only [List.any_eq_true, decide_eq_true_eq]
    rintro ⟨g, hg, e⟩
    exact hnew g hg e
theorem dels_step {u : PV} {l : List PG} {i : Nat} (hi : i < l.length) : delsV u (l.drop i) = (delV u l[i]).bind fun u' => delsV u' (l.drop (i + 1)) := by
  rw [List.drop_eq_getElem_cons hi]
  rfl
theorem adds_step {u : PV} {l : List PF} {i : Nat} (hi : i < l.length) : addsV u (l.drop i) = if addE u l[i] ≠ 0 then (addE u l[i], noV) else addsV (addV u l[i]) (l.drop (i + 1)) := by
  rw [List.drop_eq_getElem_cons hi]
  rfl
theorem apply_form {v : PV} {x : PE} (h : ¬ VOk v) : applyV v x = (140, noV) := by
  unfold applyV
  rw [if_pos]
  rw [← Bool.not_eq_true]
  exact fun hx => h (okV_iff.1 hx)
theorem apply_err {v : PV} {x : PE} (h : VOk v) (he : x.err ≠ 0) : applyV v x = (x.err, noV) := by
  unfold applyV
  rw [if_neg (by rw [okV_iff.2 h]; decide), if_pos he]
theorem apply_gone {v : PV} {x : PE} (h : VOk v) (he : x.err = 0) (hd : delsV v x.dels = none) : applyV v x = (141, noV) := by
  unfold applyV
  rw [if_neg (by rw [okV_iff.2 h]; decide), if_neg (by omega), hd]
theorem addV_len {u : PV} {f : PF} (hf : f.err = 0) : (addV u f).all.length = u.all.length + 1 := by
  obtain ⟨hn, hl⟩ := lev_nat hf
  have h1 := (upd_perm (v := u) hn (insF_perm (n := f.level.toNat) (f := f) (l := u f.level.toNat))).trans (upd_cons hn)
  rw [upd_self] at h1
  have := h1.length_eq
  simpa [addV] using this
theorem rows_apart {w : World} {B B' : Nat} {a a' : Option Addr} {n n' c c' : Nat} {l l' : List PF} {i j : Int} (h : OwnF w B a n c l) (h' : OwnF w B' a' n' c' l') (hl : ∀ f ∈ l, f.level = i) (hl' : ∀ f ∈ l', f.level = j) (hij : i ≠ j) (hne : l ≠ []) (hne' : l' ≠ []) : ∀ k, blkOf a = some k → blkOf a' ≠ some k := by
  intro k hk hk'
  have hn : 0 < n := by rw [← h.size]; exact List.length_pos_iff.2 hne
  have hn' : 0 < n' := by rw [← h'.size]; exact List.length_pos_iff.2 hne'
  obtain ⟨_, _, _, h4⟩ := row_addr h.row
  obtain ⟨_, _, _, h4'⟩ := row_addr h'.row
  obtain ⟨g, rfl⟩ := h4 hn
  obtain ⟨g', rfl⟩ := h4' hn'
  have e1 : g = k := by simpa [blkOf] using hk
  have e2 : g' = k := by simpa [blkOf] using hk'
  subst e1
  subst e2
  have x1 := h.row.cellAt 0 (by omega)
  have x2 := h'.row.cellAt 0 (by omega)
  rw [x1] at x2
  cases l with
  | nil => exact hne rfl
  | cons f r =>
    cases l' with
    | nil => exact hne' rfl
    | cons f' r' =>
      simp [fc] at x2
      exact hij (by rw [← hl f (by simp), ← hl' f' (by simp), x2])
end Go.Proofs.YtmlfbihlbiikeaaGreatDoor
namespace Go.Proofs.YtmlfbihlbiikeaaGreatDoor
open Go.RowKit
theorem slice_from (b off len cap k : Nat) (hk : k ≤ len) (hc : len ≤ cap) :
    ∃ o', (∀ W : World, (Instr.slice 29 (.slice (some ⟨b, off, none⟩) len cap) (some (.int .i64 (k : Int))) none none).run Tryz.prog W = .ok (.slice (some ⟨b, o', none⟩) (len - k) (cap - k)) W) ∧
      (∀ (W : World) (bs : List UInt8), BsAt W (some ⟨b, off, none⟩) len cap bs → BsAt W (some ⟨b, o', none⟩) (len - k) (cap - k) (bs.drop k)) := by
  by_cases h0 : cap - k = 0
  · refine ⟨off, fun W => ?_, fun W bs h => ?_⟩
    · simp [Instr.slice, run_underlying Tryz.underlying29, go_sem]
      rw [if_pos hk, if_pos (by omega)]
    · have hs := h.size
      have hm := h.max
      obtain rfl : k = len := by omega
      rw [Nat.sub_self, List.drop_eq_nil_of_le (by omega)]
      exact BsAt.empty _ _ (by omega)
  · refine ⟨off + k, fun W => ?_, fun W bs h => ?_⟩
    · simp [Instr.slice, run_underlying Tryz.underlying29, go_sem]
      rw [if_pos hk, if_neg (by omega)]
    · have := h.sub k (len - k) (by omega)
      rwa [List.take_of_length_le (by have := h.size; simp; omega)] at this
end Go.Proofs.YtmlfbihlbiikeaaGreatDoor
namespace Go.Proofs.YtmlfbihlbiikeaaGreatDoor
open Go.RowKit
theorem slice_any {w0 : World} {bs0 : List UInt8} {a : Option Addr} {len cap : Nat} (h : BsAt w0 a len cap bs0) (k : Nat) (hk : k ≤ len) :
    ∃ a', (∀ W : World, (Instr.slice 29 (.slice a len cap) (some (.int .i64 (k : Int))) none none).run Tryz.prog W = .ok (.slice a' (len - k) (cap - k)) W) ∧
      (∀ (W : World) (bs : List UInt8), BsAt W a len cap bs → BsAt W a' (len - k) (cap - k) (bs.drop k)) := by
  have hle := h.le
  have hmx := h.max
  by_cases h0 : len = 0
  · subst h0
    obtain rfl : k = 0 := by omega
    cases a with
    | none =>
      obtain rfl := h.bare rfl
      refine ⟨none, fun W => ?_, fun W bs hb => hb⟩
      simp [Instr.slice, run_underlying Tryz.underlying29, go_sem]
    | some ad =>
      obtain ⟨b, off, s⟩ := ad
      by_cases hc : cap = 0
      · subst hc
        refine ⟨some ⟨b, off, s⟩, fun W => ?_, fun W bs hb => hb⟩
        simp [Instr.slice, run_underlying Tryz.underlying29, go_sem]
      · refine ⟨some ((⟨b, off, s⟩ : Addr).add 0), fun W => ?_, fun W bs hb => ?_⟩
        · simp [Instr.slice, run_underlying Tryz.underlying29, go_sem]
          try rw [if_neg hc]
        · have := hb.size
          rw [List.eq_nil_of_length_eq_zero this]
          exact BsAt.empty _ _ (by omega)
  · obtain ⟨b, off, rfl, _⟩ := h.here (by omega)
    obtain ⟨o', h1, h2⟩ := slice_from b off len cap k hk hle
    exact ⟨some ⟨b, o', none⟩, h1, h2⟩
end Go.Proofs.YtmlfbihlbiikeaaGreatDoor
