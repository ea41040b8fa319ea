/- The contract of slices.Replace of one list by two. -/
import Derived.Test.YtnggajconglfcaaDoorM8All
import Derived.Shelf.Spec.SlicesInsert
import Derived.Lib.AppendZerosOnto
import Derived.Laws.CopyRow
import Derived.BigQuiet
namespace Go.Proofs.YtnggajconglfcaaDoor
open Go.RowKit
set_option linter.unusedVariables false
set_option linter.unusedSimpArgs false
theorem infoLp : (Tryd.prog.info? TLp).map (fun i => (i.zero, i.size, i.bytes)) = some (some (.pointer none), 1, 8) := by kernel_rfl
set_option maxRecDepth 100000 in
theorem copy_lp {w : World} {g o r rc m mc : Nat} {arr : Array Value} {a : Addr} {cs : List Value} (hd : Box w g TLp arr) (hcs : ∀ j v, cs[j]? = some v → w.cell? (a.add j) = some v) (hl : cs.length = Nat.min m r) (hfit : o + cs.length ≤ arr.size) (h1 : ∀ v ∈ cs, v.oneCell' = true) :
    ∃ W2 arr2, (∀ ty, (Builtin.copy_ #[53, 53] ty #[.slice (some ⟨g, o, none⟩) r rc, .slice (some a) m mc]).run Tryd.prog w = .ok (goInt cs.length) W2) ∧ Box W2 g TLp arr2 ∧ arr2.toList = arr.toList.take o ++ cs ++ arr.toList.drop (o + cs.length) ∧ Chg (fun k => k = g) w W2 := by
  have hs : (Tryd.prog.info? TLp).map (·.size) = some 1 := by
    obtain ⟨i0, hi0, h0, h1, h2⟩ := info_parts infoLp
    rw [hi0]; simp [h1]
  exact ⟨_, (arr.toList.take o ++ cs ++ arr.toList.drop (o + cs.length)).toArray, fun ty => run_copy_row Tryd.prog w _ _ ty TLp g o r rc a m mc arr TLp cs Tryd.underlying53 hs hd hl hcs hfit h1, setRow_box hd, rfl, setRow_chg w g _⟩
theorem szLp (W : World) : (sizeOf TLp).run Tryd.prog W = .ok 1 W := by kernel_rfl
theorem slLo (g n c lo : Nat) (h : lo ≤ n) (hn : n ≤ c) (hc : lo < c) (W : World) : (Instr.slice 53 (.slice (some ⟨g, 0, none⟩) n c) (some (.int .i64 (lo : Int))) none none).run Tryd.prog W = .ok (.slice (some ⟨g, lo, none⟩) (n - lo) (c - lo)) W := by
  have h1 : (0 : Int) ≤ (lo : Int) ∧ (lo : Int) ≤ (n : Int) := by omega
  have h2 : ¬ (c = lo) := by omega
  have h3 : lo ≤ c := by omega
  have h4 : n ≤ c := hn
  simp [Instr.slice, run_underlying Tryd.underlying53, Instr.sliceBounds, Instr.sliceBound, asIntOf, h, h2, h3, h4, szLp, Addr.add_lit, go_sem]
theorem slHi (g n c hi : Nat) (h : hi ≤ c) (hc : 0 < c) (W : World) : (Instr.slice 53 (.slice (some ⟨g, 0, none⟩) n c) none (some (.int .i64 (hi : Int))) none).run Tryd.prog W = .ok (.slice (some ⟨g, 0, none⟩) hi c) W := by
  have h1 : (0 : Int) ≤ (hi : Int) ∧ (hi : Int) ≤ (c : Int) := by omega
  have h2 : ¬ (c = 0) := by omega
  simp [Instr.slice, run_underlying Tryd.underlying53, Instr.sliceBounds, Instr.sliceBound, asIntOf, h, h2, szLp, Addr.add_lit, go_sem]
theorem slBoth (g n c lo hi : Nat) (hlo : lo ≤ hi) (h : hi ≤ c) (hc : lo < c) (W : World) : (Instr.slice 53 (.slice (some ⟨g, 0, none⟩) n c) (some (.int .i64 (lo : Int))) (some (.int .i64 (hi : Int))) none).run Tryd.prog W = .ok (.slice (some ⟨g, lo, none⟩) (hi - lo) (c - lo)) W := by
  have h2 : ¬ (c = lo) := by omega
  simp [Instr.slice, run_underlying Tryd.underlying53, Instr.sliceBounds, Instr.sliceBound, asIntOf, h, h2, hlo, szLp, Addr.add_lit, go_sem]
/-- What Replace leaves. -/
structure Repl (w w' : World) (g n g' c' : Nat) (L : List Value) : Prop where
  here : ∃ cur', Box w' g' TLp cur' ∧ cur'.size = c' ∧ cur'.toList.take (n + 1) = L
  le : n + 1 ≤ c'
  max : c' ≤ maxLen
  mine : g' = g ∨ w.heap.size ≤ g'
  chg : Chg (fun k => k = g) w w'
section
variable {w : World} {g n c i vb p0 p1 : Nat} {cur : Array Value}
theorem one2 : ∀ u ∈ [at_ p0, at_ p1], u.oneCell' = true := by
  intro u hu
  simp only [List.mem_cons, List.mem_nil_iff, or_false] at hu
  rcases hu with rfl | rfl <;> rfl
theorem cell2 (hv : Box w vb TLp #[at_ p0, at_ p1]) : ∀ j u, [at_ p0, at_ p1][j]? = some u → w.cell? ((⟨vb, 0, none⟩ : Addr).add j) = some u := fun j u hu => by
  rw [Addr.add_lit, Nat.zero_add, hv.cell, ← Array.getElem?_toList]
  exact hu
set_option maxRecDepth 100000 in
theorem app_lp (hb : Box w g TLp cur) (hs : cur.size = c) (hin : i + 1 = n) (hnc : n ≤ c) (hc : c ≤ maxLen) (hv : Box w vb TLp #[at_ p0, at_ p1]) (hN : n + 1 ≤ 17592186044416) :
    ∃ g' c' w', (∀ ty, (Builtin.append_ #[53, 53] ty #[.slice (some ⟨g, 0, none⟩) i c, .slice (some ⟨vb, 0, none⟩) 2 2]).run Tryd.prog w = .ok (.slice (some ⟨g', 0, none⟩) (i + 2) c') w') ∧ Repl w w' g n g' c' (cur.toList.take i ++ [at_ p0, at_ p1] ++ (cur.toList.take n).drop (i + 1)) := by
  obtain ⟨i0, hi0, hz0, hz1, hz2⟩ := info_parts infoLp
  have hcl : cur.toList.length = c := by simpa using hs
  have hz : (cur.toList.take n).drop (i + 1) = [] := List.drop_eq_nil_of_le (by rw [List.length_take]; omega)
  rw [hz, List.append_nil]
  by_cases hroom : i + 2 ≤ c
  · refine ⟨g, c, _, fun ty => run_append_room w _ ty TLp i0 Tryd.underlying53 hi0 g i c cur hb ⟨vb, 0, none⟩ 2 2 [at_ p0, at_ p1] (by rw [hz1]; rfl) (cell2 hv) one2 hroom (by rw [hz1]; simp; omega), ⟨_, setRow_box hb, ?_, ?_⟩, by omega, hc, .inl rfl, setRow_chg w g _⟩
    · rw [hz1]
      simp
      omega
    · rw [hz1]
      have hl : (cur.toList.take (i * 1)).length = i := by rw [List.length_take]; omega
      simp only [List.append_assoc]
      rw [show n + 1 = (cur.toList.take (i * 1)).length + 2 by omega, List.take_length_add_append, Nat.mul_one]
      rfl
  · have hl : (cur.toList.take i).length = i := by rw [List.length_take]; omega
    have hrun := fun ty => run_append_grow (P := Tryd.prog) w 53 ty TLp i0 _ Tryd.underlying53 hi0 hz0 ⟨g, 0, none⟩ i c (cur.toList.take i) (by rw [hz1]; omega) (fun j v hj => by
        rw [Addr.add_lit, Nat.zero_add, hb.cell, ← Array.getElem?_toList]
        rw [List.getElem?_take] at hj
        split at hj
        · exact hj
        · cases hj) ⟨vb, 0, none⟩ 2 2 [at_ p0, at_ p1] (by rw [hz1]; rfl) (cell2 hv) (by omega) (by omega) (growslice_fits (by omega) (by rw [hz2]; omega))
    have hge := grownCap_ge w (i + 2) c TLp
    refine ⟨_, _, _, hrun, ⟨_, Box.new w.drew TLp _, ?_, ?_⟩, by omega, grownCap_le_maxLen w _ _ _ (by unfold maxLen; omega), .inr (Nat.le_refl _), Chg.of ((Below.refl _ _).drew.alloc (Nat.le_refl _) _)⟩
    · simp only [Array.size_append, List.size_toArray, hl, size_zeroCells, List.length_cons, List.length_nil]
      rw [show (Value.pointer none).cells.size = 1 from rfl]
      omega
    · simp only [Array.toList_append, List.append_assoc]
      rw [show n + 1 = (cur.toList.take i).length + 2 by omega, List.take_length_add_append]
      rfl
set_option maxRecDepth 100000 in
theorem zeros_lp (hb : Box w g TLp cur) (hs : cur.size = c) (hin : i ≤ c) {k : Nat} (hk : 0 < k) (hgr : c < i + k) (hN : i + k ≤ 17592186044416) :
    ∃ c' w' arr, (∀ ty, (Builtin.append_ #[53, 3] ty #[.slice (some ⟨g, 0, none⟩) i c, .int .i64 (k : Int)]).run Tryd.prog w = .ok (.slice (some ⟨w.heap.size, 0, none⟩) (i + k) c') w') ∧ Box w' w.heap.size TLp arr ∧ arr.size = c' ∧ arr.toList.take i = cur.toList.take i ∧ i + k ≤ c' ∧ c' ≤ maxLen ∧ Below w.heap.size w w' := by
  obtain ⟨i0, hi0, hz0, hz1, hz2⟩ := info_parts infoLp
  have hcl : cur.toList.length = c := by simpa using hs
  have hl : (cur.toList.take i).length = i := by rw [List.length_take]; omega
  have hold : (Builtin.firstCells i0.size i (.slice (some ⟨g, 0, none⟩) i c)).run Tryd.prog w.drew = .ok (cur.toList.take i).toArray w.drew := run_firstCells_some w.drew _ i ⟨g, 0, none⟩ i c _ (by rw [hz1]; omega) (fun j v hj => by
        have hbd : Box w.drew g TLp cur := hb
        rw [Addr.add_lit, Nat.zero_add, hbd.cell, ← Array.getElem?_toList]
        rw [List.getElem?_take] at hj
        split at hj
        · exact hj
        · cases hj)
  have hrun := fun ty => Lib.run_append_grow_zeros (P := Tryd.prog) w 53 3 ty TLp i0 _ .i64 .i64 Tryd.underlying53 Tryd.underlying3 hi0 hz0 (some ⟨g, 0, none⟩) i c (cur.toList.take i) hold k hk (by omega) hgr (by omega) (by rw [hz2]; omega) (growslice_fits hgr (by rw [hz2]; omega))
  have hge := grownCap_ge w (i + k) c TLp
  refine ⟨_, _, _, hrun, Box.new w.drew TLp _, ?_, ?_, hge, grownCap_le_maxLen w _ _ _ (by unfold maxLen; omega), (Below.refl _ _).drew.alloc (Nat.le_refl _) _⟩
  · simp only [Array.size_append, List.size_toArray, hl, size_zeroCells]
    rw [show (Value.pointer none).cells.size = 1 from rfl]
    omega
  · simp only [Array.toList_append, List.append_assoc]
    rw [List.take_append_of_le_length (by rw [hl]; exact Nat.le_refl _), List.take_of_length_le (by rw [hl]; exact Nat.le_refl _)]
set_option maxRecDepth 100000 in
set_option maxHeartbeats 1000000 in
theorem replace_last (hb : Box w g TLp cur) (hs : cur.size = c) (hin : i + 1 = n) (hnc : n ≤ c) (hc : c ≤ maxLen) (hv : Box w vb TLp #[at_ p0, at_ p1]) (hN : n + 1 ≤ 17592186044416) :
    Calls Tryd.prog 48 #[.slice (some ⟨g, 0, none⟩) n c, .int .i64 (i : Int), .int .i64 ((i : Int) + 1), .slice (some ⟨vb, 0, none⟩) 2 2] w fun e w' => ∃ g' c', e = .returned (.slice (some ⟨g', 0, none⟩) (n + 1) c') ∧ Repl w w' g n g' c' (cur.toList.take i ++ [at_ p0, at_ p1] ++ (cur.toList.take n).drop (i + 1)) := by
  have hi1 : ((i : Int) + 1) = ((i + 1 : Nat) : Int) := by omega
  have hs1 := slBoth g n c i (i + 1) (by omega) (by omega) (by omega)
  have hs2 := slHi g n c i (by omega) (by omega)
  rw [← hi1] at hs1
  obtain ⟨g', c', w', hap, hR⟩ := app_lp hb hs hin hnc hc hv hN
  have HR : Hid (_) := hR
  have hc' := hR.max
  have hle := hR.le
  have hq : ((i : Int) == (i : Int) + 1) = false := beq_eq_false_iff_ne.2 (by omega)
  have hq2 : ((i : Int) + 1 == (n : Int)) = true := beq_iff_eq.2 (by omega)
  have hq3 : decide (((i + 2 : Nat) : Int) < (n : Int)) = false := by simp; omega
  unfold maxLen at hc hc'
  have HI : Hid (i + 1 = n) := hin
  clear hR hb hv hs
  go_enter Tryd.func48, Tryd.ntmps48
  go_wp2_with (at_builtin; refine Lib.wpList_append_run _ rfl _ _ 53 53 rfl _ _ rfl rfl _ _ (hap _) ?_)
  go_ret
  refine ⟨g', c', ret1 ?_, HR.out⟩
  have := HI.out
  subst this
  rfl
theorem rep_take {X L1 cs R : List Value} {v0 v1 : Value} {i n : Nat} (hX : X.length = i) (hcs : cs.length + (i + 1) = n) (hL : L1.take (i + 2) = X ++ [v0, v1]) : (L1.take (i + 2) ++ cs ++ R).take (n + 1) = X ++ [v0, v1] ++ cs := by
  rw [hL]
  have : n + 1 = (X ++ [v0, v1] ++ cs).length := by simp; omega
  rw [this, List.take_left]
/-- The cells of a row as a slice of it sees them. -/
theorem row_cells {W : World} {a : Nat} {arr : Array Value} (hb : Box W a TLp arr) (o m : Nat) : ∀ j v, ((arr.toList.take m).drop o)[j]? = some v → W.cell? ((⟨a, o, none⟩ : Addr).add j) = some v := fun j v hj => by
  rw [Addr.add_lit, hb.cell, ← Array.getElem?_toList]
  rw [List.getElem?_drop, List.getElem?_take] at hj
  split at hj
  · exact hj
  · cases hj
set_option maxRecDepth 100000 in
set_option maxHeartbeats 2000000 in
theorem replace_grow (hb : Box w g TLp cur) (hs : cur.size = n) (hin : i + 1 < n) (hv : Box w vb TLp #[at_ p0, at_ p1]) (h1 : ∀ v ∈ cur.toList.take n, v.oneCell' = true) (hN : n + 1 ≤ 17592186044416) :
    Calls Tryd.prog 48 #[.slice (some ⟨g, 0, none⟩) n n, .int .i64 (i : Int), .int .i64 ((i : Int) + 1), .slice (some ⟨vb, 0, none⟩) 2 2] w fun e w' => ∃ g' c', e = .returned (.slice (some ⟨g', 0, none⟩) (n + 1) c') ∧ Repl w w' g n g' c' (cur.toList.take i ++ [at_ p0, at_ p1] ++ (cur.toList.take n).drop (i + 1)) := by
  have hi1 : ((i : Int) + 1) = ((i + 1 : Nat) : Int) := by omega
  have hs1 := slBoth g n n i (i + 1) (by omega) (by omega) (by omega)
  have hs2 := slHi g n n i (by omega) (by omega)
  have hs3 := slLo g n n (i + 1) (by omega) (by omega) (by omega)
  rw [← hi1] at hs1 hs3
  clear hi1
  have hq : ((i : Int) == (i : Int) + 1) = false := beq_eq_false_iff_ne.2 (by omega)
  have hq2 : ((i : Int) + 1 == (n : Int)) = false := beq_eq_false_iff_ne.2 (by omega)
  have HB : Hid (Box w g TLp cur ∧ cur.size = n ∧ Box w vb TLp #[at_ p0, at_ p1] ∧ (∀ v ∈ cur.toList.take n, v.oneCell' = true)) := ⟨hb, hs, hv, h1⟩
  clear hb hv hs h1
  go_enter Tryd.func48, Tryd.ntmps48
  go_wp2_with fail
  go_quiet (fail)
  rw [show (i : Int) + 2 + ((n - (i + 1) : Nat) : Int) = (n : Int) + 1 by omega]
  have HB0 : Hid (Box (w.drewN nq) g TLp cur ∧ Box (w.drewN nq) vb TLp #[at_ p0, at_ p1] ∧ Below w.heap.size w (w.drewN nq) ∧ (w.drewN nq).heap.size = w.heap.size) := ⟨HB.out.1, HB.out.2.2.1, Below.drewM (Below.refl _ _) _, rfl⟩
  generalize w.drewN nq = w0 at HB0 ⊢
  have hs := HB.out.2.1
  have h1 := HB.out.2.2.2
  have hcl : cur.toList.length = n := by simpa using hs
  obtain ⟨hbd, hv, hb0, hsz0⟩ := HB0.out
  obtain ⟨c', w1, arr, hap, hbx, hsz, htk, hle, hmx, hbl⟩ := zeros_lp hbd hs (i := i) (k := n + 1 - i) (by omega) (by omega) (by omega) (by omega)
  have hvl := hv.lt
  have hgl := hbd.lt
  have hv1 : Box w1 vb TLp #[at_ p0, at_ p1] := hv.kept (hbl.block _ hvl)
  obtain ⟨w2, arr2, hcp1, hb2, hl2, hc2⟩ := copy_lp (o := i) (r := n + 1 - i) (rc := c' - i) (m := 2) (mc := 2) hbx (cell2 hv1) (by simp [Nat.min_def]; omega) (by simp; omega) one2
  have hb1g : Box w1 g TLp cur := hbd.kept (hbl.block _ hgl)
  have hb2g : Box w2.drew g TLp cur := Box.kept (w := w1) hb1g (hc2.block _ hb1g.lt (by omega))
  have hb2d : Box w2.drew w0.heap.size TLp arr2 := hb2
  have hasz : arr2.size = c' := by
    rw [← Array.length_toList, hl2]
    simp
    omega
  obtain ⟨w3, arr3, hcp2, hb3, hl3, hc3⟩ := copy_lp (o := i + 2) (r := n + 1 - (i + 2)) (rc := c' - (i + 2)) (m := n - (i + 1)) (mc := n - (i + 1)) hb2d (row_cells hb2g (i + 1) n) (by rw [List.length_drop, List.length_take, hcl, Nat.min_self, show n + 1 - (i + 2) = n - (i + 1) by omega]; exact (Nat.min_self _).symm) (by rw [List.length_drop, List.length_take]; omega) (fun v hv => h1 v (List.mem_of_mem_drop hv))
  have HR : Hid (Repl w w3 g n w0.heap.size c' (cur.toList.take i ++ [at_ p0, at_ p1] ++ (cur.toList.take n).drop (i + 1))) := by
    refine ⟨⟨arr3, hb3, ?_, ?_⟩, by omega, hmx, .inr (by omega), ?_⟩
    · rw [← Array.length_toList, hl3]
      simp only [List.length_append, List.length_take, List.length_drop, Array.length_toList]
      omega
    · rw [hl3]
      refine rep_take (by rw [List.length_take]; omega) (by rw [List.length_drop, List.length_take]; omega) ?_
      rw [hl2, htk]
      rw [show i + 2 = (cur.toList.take i ++ [at_ p0, at_ p1]).length by simp; omega, List.take_left]
    · have hB : Below w.heap.size w w3 := by
        have e1 : Below w.heap.size w w1 := hb0.trans (hbl.mono hb0.size)
        have e2 := e1.trans (hc2.below (fun k hk => by omega) e1.size)
        have e3 : Below w.heap.size w w2.drew := e2.drew
        exact e3.trans (hc3.below (fun k hk => by omega) e3.size)
      exact Chg.of hB
  have hsA := slLo w0.heap.size (n + 1) c' i (by omega) (by omega) (by omega)
  have hsB := slLo w0.heap.size (n + 1) c' (i + 2) (by omega) (by omega) (by omega)
  have hi2 : ((i + 2 : Nat) : Int) = (i : Int) + 2 := by omega
  have hk1 : ((n + 1 - i : Nat) : Int) = (n : Int) + 1 - (i : Int) := by omega
  rw [hi2] at hsB
  have hkk : i + (n + 1 - i) = n + 1 := by omega
  rw [hkk, hk1] at hap
  unfold maxLen at hmx
  clear hi2 hk1 hkk hcl hasz hsz0 hb0 hvl hgl
  clear hv hs hbd hbx hsz htk hbl hv1 hb2 hl2 hc2 hb1g hb2g hb2d hb3 hl3 hc3 h1 HB0 HB
  go_wp2_with (at_builtin; first | refine Lib.wpList_append_run _ rfl _ _ 53 3 rfl _ _ rfl rfl _ _ (hap _) ?_ | refine wpList_copy_runI _ rfl _ _ 53 53 rfl _ _ rfl rfl (hcp1 _) ?_)
  have hwi : IntKind.i64.wrap ((i : Int) + 2) = (i : Int) + 2 := by rw [IntKind.wrap_i64]; omega
  go_region_law (refine step_copy_runI rfl _ _ 53 53 rfl _ _ (by simp [Act.eval, Act.put]) (by simp [Act.eval, Act.put]) (hcp2 _) ?_)
  go_wp2
  go_ret
  exact ⟨_, _, ret1 rfl, HR.out⟩
theorem Box.shape {W : World} {a : Nat} {t : TypeId} {arr : Array Value} (h : Box W a t arr) : W.shape? a = some (t, arr.size) := by
  have h' : W.heap[a]? = some (.cells arr t (0, 0)) := h
  simp [World.shape?, h']
set_option maxRecDepth 100000 in
theorem over_lp {W : World} (hb : Box W g TLp cur) (hv : Box W vb TLp #[at_ p0, at_ p1]) (hne : g ≠ vb) (o la ca : Nat) : (callFunc 62 #[.slice (some ⟨g, o, none⟩) la ca, .slice (some ⟨vb, 0, none⟩) 2 2]).run Tryd.prog W = .ok (.value (.bool false)) W := by
  rw [run_callFunc_extern Tryd.func62 (by kernel_rfl) (by kernel_rfl) (by kernel_rfl) (e := Extern.SlicesOverlaps.overlaps #[53, 53] #[4]) (by kernel_rfl),
    Lib.run_overlaps_apart W 53 4 TLp Tryd.underlying53 1 szLp ⟨g, o, none⟩ ⟨vb, 0, none⟩ la ca 2 2 hne TLp TLp cur.size 2 hb.shape hv.shape (by decide) (hb.soft o) (hb.soft cur.size)]
  rfl
set_option maxRecDepth 100000 in
set_option maxHeartbeats 2000000 in
theorem replace_room (hb : Box w g TLp cur) (hs : cur.size = c) (hin : i + 1 < n) (hnc : n + 1 ≤ c) (hc : c ≤ maxLen) (hv : Box w vb TLp #[at_ p0, at_ p1]) (hne : g ≠ vb) (h1 : ∀ v ∈ cur.toList.take n, v.oneCell' = true) (hN : n + 1 ≤ 17592186044416) :
    Calls Tryd.prog 48 #[.slice (some ⟨g, 0, none⟩) n c, .int .i64 (i : Int), .int .i64 ((i : Int) + 1), .slice (some ⟨vb, 0, none⟩) 2 2] w fun e w' => ∃ g' c', e = .returned (.slice (some ⟨g', 0, none⟩) (n + 1) c') ∧ Repl w w' g n g' c' (cur.toList.take i ++ [at_ p0, at_ p1] ++ (cur.toList.take n).drop (i + 1)) := by
  have hi1 : ((i : Int) + 1) = ((i + 1 : Nat) : Int) := by omega
  have hi2 : ((i : Int) + 2) = ((i + 2 : Nat) : Int) := by omega
  have hn1 : ((n : Int) + 1) = ((n + 1 : Nat) : Int) := by omega
  have hs1 := slBoth g n c i (i + 1) (by omega) (by omega) (by omega)
  have hs2 := slHi g n c i (by omega) (by omega)
  have hs3 := slLo g n c (i + 1) (by omega) (by omega) (by omega)
  have hs4 := slHi g n c (n + 1) (by omega) (by omega)
  have hs5 := slLo g (n + 1) c (i + 2) (by omega) (by omega) (by omega)
  have hs6 := slLo g (n + 1) c i (by omega) (by omega) (by omega)
  rw [← hi1] at hs1 hs3
  rw [← hn1] at hs4
  rw [← hi2] at hs5
  clear hi1 hi2 hn1
  have hq : ((i : Int) == (i : Int) + 1) = false := beq_eq_false_iff_ne.2 (by omega)
  have hq2 : ((i : Int) + 1 == (n : Int)) = false := beq_eq_false_iff_ne.2 (by omega)
  have hq3 : decide ((c : Int) < (n : Int) + 1) = false := by simp; omega
  have hq4 : decide ((i : Int) + 2 ≤ (i : Int) + 1) = false := decide_eq_false (by omega)
  have HB : Hid (Box w g TLp cur ∧ cur.size = c ∧ Box w vb TLp #[at_ p0, at_ p1] ∧ (∀ v ∈ cur.toList.take n, v.oneCell' = true) ∧ g ≠ vb ∧ c ≤ maxLen) := ⟨hb, hs, hv, h1, hne, hc⟩
  unfold maxLen at hc
  clear hb hv hs h1 hne
  go_enter Tryd.func48, Tryd.ntmps48
  go_wp2_with fail
  go_quiet (fail)
  rw [show (i : Int) + 2 + ((n - (i + 1) : Nat) : Int) = (n : Int) + 1 by omega]
  have HB0 : Hid (Box (w.drewN nq) g TLp cur ∧ Box (w.drewN nq) vb TLp #[at_ p0, at_ p1] ∧ Below w.heap.size w (w.drewN nq)) := ⟨HB.out.1, HB.out.2.2.1, Below.drewM (Below.refl _ _) _⟩
  generalize w.drewN nq = w0 at HB0 ⊢
  have hs := HB.out.2.1
  have h1 := HB.out.2.2.2.1
  have hne := HB.out.2.2.2.2.1
  have hcl : cur.toList.length = c := by simpa using hs
  obtain ⟨hbd, hv, hb0⟩ := HB0.out
  have hov := fun (la ca : Nat) => over_lp hbd hv hne (i + 2) la ca
  have hbdd : Box w0.drew g TLp cur := hbd
  obtain ⟨w2, arr2, hcp1, hb2, hl2, hc2⟩ := copy_lp (o := i + 2) (r := n + 1 - (i + 2)) (rc := c - (i + 2)) (m := n - (i + 1)) (mc := c - (i + 1)) hbdd (row_cells hbdd (i + 1) n) (by rw [List.length_drop, List.length_take, hcl, show n + 1 - (i + 2) = n - (i + 1) by omega, show min n c = n by omega]; exact (Nat.min_self _).symm) (by rw [List.length_drop, List.length_take]; omega) (fun v hv => h1 v (List.mem_of_mem_drop hv))
  have hv2 : Box w2 vb TLp #[at_ p0, at_ p1] := Box.kept (w := w0.drew) hv (hc2.block _ hv.lt (by omega))
  have hasz : arr2.size = c := by
    rw [← Array.length_toList, hl2]
    simp
    omega
  obtain ⟨w3, arr3, hcp2, hb3, hl3, hc3⟩ := copy_lp (o := i) (r := n + 1 - i) (rc := c - i) (m := 2) (mc := 2) hb2 (cell2 hv2) (by simp [Nat.min_def]; omega) (by simp; omega) one2
  have HR : Hid (Repl w w3 g n g c (cur.toList.take i ++ [at_ p0, at_ p1] ++ (cur.toList.take n).drop (i + 1))) := by
    refine ⟨⟨arr3, hb3, ?_, ?_⟩, by omega, HB.out.2.2.2.2.2, .inl rfl, ?_⟩
    · rw [← Array.length_toList, hl3]
      simp only [List.length_append, List.length_take, List.length_drop, Array.length_toList, List.length_cons, List.length_nil]
      omega
    · rw [hl3, hl2]
      have e0 : (cur.toList.take (i + 2)).length = i + 2 := by rw [List.length_take]; omega
      have e1 : ∀ R : List Value, (cur.toList.take (i + 2) ++ R).take i = cur.toList.take i := fun R => by
        rw [List.take_append_of_le_length (by omega), List.take_take, show min i (i + 2) = i by omega]
      have e2 : ∀ R : List Value, (cur.toList.take (i + 2) ++ R).drop (i + [at_ p0, at_ p1].length) = R := fun R => by
        rw [show i + [at_ p0, at_ p1].length = (cur.toList.take (i + 2)).length by rw [e0]; rfl, List.drop_left]
      have e4 := fun A B : List Value => List.append_assoc (cur.toList.take (i + 2)) A B
      rw [e4, e1, e2, ← List.append_assoc]
      have e3 : (cur.toList.take i ++ [at_ p0, at_ p1] ++ (cur.toList.take n).drop (i + 1)).length = n + 1 := by
        simp only [List.length_append, List.length_take, List.length_drop, List.length_cons, List.length_nil]
        omega
      rw [← e3, List.take_left]
    · have e1 : Chg (fun k => k = g) w w0.drew := (Chg.of hb0).drew
      exact (e1.andThen hc2 fun _ _ h => h).andThen hc3 fun _ _ h => h
  clear hcl hasz hb0
  clear hv hs hbd hbdd hv2 hb2 hl2 hc2 hb3 hl3 hc3 h1 HB0 HB hne
  go_wp2_with (simp only [hov])
  have hwi : IntKind.i64.wrap ((i : Int) + 2) = (i : Int) + 2 := by rw [IntKind.wrap_i64]; omega
  go_region_law (refine step_copy_runI rfl _ _ 53 53 rfl _ _ (by simp [Act.eval, Act.put]) (by simp [Act.eval, Act.put]) (hcp1 _) ?_)
  go_wp2_with (at_builtin; refine wpList_copy_runI _ rfl _ _ 53 53 rfl _ _ rfl rfl (hcp2 _) ?_)
  go_ret
  exact ⟨_, _, ret1 rfl, HR.out⟩
theorem replace_at (hb : Box w g TLp cur) (hs : cur.size = c) (hin : i < n) (hnc : n ≤ c) (hc : c ≤ maxLen) (hv : Box w vb TLp #[at_ p0, at_ p1]) (hne : g ≠ vb) (h1 : ∀ v ∈ cur.toList.take n, v.oneCell' = true) (hN : n + 1 ≤ 17592186044416) :
    Calls Tryd.prog 48 #[.slice (some ⟨g, 0, none⟩) n c, .int .i64 (i : Int), .int .i64 ((i : Int) + 1), .slice (some ⟨vb, 0, none⟩) 2 2] w fun e w' => ∃ g' c', e = .returned (.slice (some ⟨g', 0, none⟩) (n + 1) c') ∧ Repl w w' g n g' c' (cur.toList.take i ++ [at_ p0, at_ p1] ++ (cur.toList.take n).drop (i + 1)) := by
  by_cases e : i + 1 = n
  · exact replace_last hb hs e hnc hc hv hN
  · by_cases e2 : c = n
    · subst e2
      exact replace_grow hb hs (by omega) hv h1 hN
    · exact replace_room hb hs (by omega) (by omega) hc hv hne h1 hN
end
end Go.Proofs.YtnggajconglfcaaDoor
