/- The contract of slices.Insert of one file, at a row of the call's own. -/
import Derived.Test.YtmlfbihlbiikeaaGreatDoorQe05
import Derived.Shelf.Spec.SlicesInsert
import Derived.Lib.AppendZerosOnto
import Derived.Laws.CopyRow
import Derived.Lib.Overlaps
import Derived.BigQuiet
import Derived.Test.YtmlfbihlbiikeaaGreatDoorQe04
import Derived.Maps.OwnSet
import Derived.Maps.Views
set_option linter.unusedVariables false
set_option linter.unusedSimpArgs false
set_option maxRecDepth 100000
namespace Go.Proofs.YtmlfbihlbiikeaaGreatDoor
open Go.RowKit
theorem setRow_boxF {w : World} {g : Nat} {cur new : Array Value} {t : TypeId} (h : Box w g t cur) : Box (w.setRow g new) g t new := by
 have h' : w.heap[g]? = some (.cells cur t (0, 0)) := h
 have hlt := h.lt
 show (w.setRow g new).heap[g]? = some (.cells new t (0, 0))
 simp [World.setRow, Array.getElem?_modify, h']
theorem setRow_chgF (w : World) (g : Nat) (new : Array Value) : Chg (fun k => k = g) w (w.setRow g new) := by
 refine ⟨rfl, rfl, rfl, by simp [World.setRow], fun k hk hn => ?_⟩
 simp only [World.setRow, Array.getElem?_modify]
 rw [if_neg (fun e => hn e.symm)]
theorem flat_take {α : Type} {f : α → List Value} {sz : Nat} (hf : ∀ x, (f x).length = sz) : ∀ (l : List α) (i : Nat), (l.flatMap f).take (i * sz) = (l.take i).flatMap f
 | [], i => by simp
 | x :: r, 0 => by simp
 | x :: r, i + 1 => by
  rw [List.flatMap_cons, List.take_succ_cons, List.flatMap_cons, ← flat_take hf r i, List.take_append, hf, Nat.succ_mul]
  rw [List.take_of_length_le (by rw [hf]; omega), show i * sz + sz - sz = i * sz by omega]
theorem flat_drop {α : Type} {f : α → List Value} {sz : Nat} (hf : ∀ x, (f x).length = sz) : ∀ (l : List α) (i : Nat), (l.flatMap f).drop (i * sz) = (l.drop i).flatMap f
 | [], i => by simp
 | x :: r, 0 => by simp
 | x :: r, i + 1 => by
  rw [List.flatMap_cons, List.drop_succ_cons, ← flat_drop hf r i, List.drop_append, hf, Nat.succ_mul]
  rw [List.drop_of_length_le (by rw [hf]; omega), show i * sz + sz - sz = i * sz by omega, List.nil_append]
theorem szF (W : World) : (sizeOf TF).run Tryz.prog W = .ok 9 W := by kernel_rfl
theorem copy_f {w : World} {g o r rc m mc k : Nat} {arr : Array Value} {a : Addr} {cs : List Value} (hd : Box w g TF arr) (hk : Nat.min m r = k) (hl : cs.length = k * 9) (hcs : ∀ j v, cs[j]? = some v → w.cell? (a.add j) = some v) (hfit : o + cs.length ≤ arr.size) (h1 : ∀ v ∈ cs, v.oneCell' = true) :
 ∃ W2 arr2, (∀ ty, (Builtin.copy_ #[41, 41] ty #[.slice (some ⟨g, o, none⟩) r rc, .slice (some a) m mc]).run Tryz.prog w = .ok (goInt k) W2) ∧ Box W2 g TF arr2 ∧ arr2.toList = arr.toList.take o ++ cs ++ arr.toList.drop (o + cs.length) ∧ Chg (fun k => k = g) w W2 := by
 refine ⟨w.setRow g (arr.toList.take o ++ cs ++ arr.toList.drop (o + cs.length)).toArray, (arr.toList.take o ++ cs ++ arr.toList.drop (o + cs.length)).toArray, fun ty => ?_, setRow_boxF hd, rfl, setRow_chgF w g _⟩
 have h2 := run_firstCells_some (P := Tryz.prog) w 9 k a m mc cs hl hcs
 have h3 := run_storeCells_at Tryz.prog g o TF cs 0 arr w hd (by simpa using hfit) h1
 simp [Builtin.copy_, run_underlying Tryz.underlying41, Builtin.lenOf, szF, hk, h2, h3]
theorem slLoF (g n c lo : Nat) (h : lo ≤ n) (hn : n ≤ c) (hc : lo < c) (W : World) : (Instr.slice 41 (.slice (some ⟨g, 0, none⟩) n c) (some (.int .i64 (lo : Int))) none none).run Tryz.prog W = .ok (.slice (some ⟨g, lo * 9, none⟩) (n - lo) (c - lo)) W := by
 have h2 : ¬ (c = lo) := by omega
 have h3 : lo ≤ c := by omega
 simp [Instr.slice, run_underlying Tryz.underlying41, Instr.sliceBounds, Instr.sliceBound, asIntOf, h, h2, h3, hn, szF, Addr.add_lit, go_sem]
theorem slAnyF (a : Option Addr) (n c : Nat) (hn : n ≤ c) (W : World) : ∃ v, (Instr.slice 41 (.slice a n c) (some (.int .i64 (n : Int))) none none).run Tryz.prog W = .ok v W := by
 simp [Instr.slice, run_underlying Tryz.underlying41, Instr.sliceBounds, Instr.sliceBound, asIntOf, hn, szF, go_sem]
theorem slHiF (g n c hi : Nat) (h : hi ≤ c) (hc : 0 < c) (W : World) : (Instr.slice 41 (.slice (some ⟨g, 0, none⟩) n c) none (some (.int .i64 (hi : Int))) none).run Tryz.prog W = .ok (.slice (some ⟨g, 0, none⟩) hi c) W := by
 have h2 : ¬ (c = 0) := by omega
 simp [Instr.slice, run_underlying Tryz.underlying41, Instr.sliceBounds, Instr.sliceBound, asIntOf, h, h2, szF, Addr.add_lit, go_sem]
def insAt (l : List PF) (i : Nat) (f : PF) : List PF := l.take i ++ f :: l.drop i
theorem insAt_len (l : List PF) (i : Nat) (f : PF) (h : i ≤ l.length) : (insAt l i f).length = l.length + 1 := by
 simp [insAt]
 omega
section
variable {w : World} {B : Nat} {a : Option Addr} {n c i vb : Nat} {l : List PF} {f : PF}
set_option maxHeartbeats 2000000 in
theorem insert_last (h : OwnF w B a n c l) (hv : Box w vb TF (fA f)) (hb : B ≤ w.heap.size) (hn : n < 65536) :
 Calls Tryz.prog 116 #[.slice a n c, .int .i64 (n : Int), .slice (some ⟨vb, 0, none⟩) 1 1] w fun e w' => ∃ a' c', e = .returned (.slice a' (n + 1) c') ∧ OwnF w' B a' (n + 1) c' (insAt l n f) ∧ Chg (fun k => blkOf a = some k) w w' := by
 have hls := h.size
 have hva : FlAt w (some ⟨vb, 0, none⟩) 1 1 [f] := by
  refine ⟨rfl, by simp [fc], Nat.le_refl _, by unfold maxLen; omega, by simp, fun _ => ⟨vb, 0, rfl, fun j hj => ?_⟩⟩
  rw [Nat.zero_add, hv.cell, ← Array.getElem?_toList]
  simp [fA, fc]
 have HH : Hid (OwnF w B a n c l ∧ FlAt w (some ⟨vb, 0, none⟩) 1 1 [f] ∧ insAt l n f = l ++ [f]) := ⟨h, hva, by unfold insAt; rw [← hls, List.take_length, List.drop_length]⟩
 have hr := h.fs.row.le
 have hmx := h.fs.row.max
 unfold maxLen at hmx
 obtain ⟨sv, hsl⟩ := slAnyF a n c hr w
 clear h hv hls hva
 go_enter Tryz.func116, Tryz.ntmps116
 go_wp2_with (at_builtin; refine wpList_appFl w rfl _ _ rfl B a n c l rfl HH.out.1 (some ⟨vb, 0, none⟩) 1 1 [f] rfl HH.out.2.1 (by omega) hb ?_; intro a2 c2 w2 ho2 hb2 hg2)
 have H2 : Hid (OwnF w2 B a2 (n + 1) c2 (insAt l n f) ∧ Chg (fun k => blkOf a = some k) w w2) := by
  rw [HH.out.2.2]
  exact ⟨ho2, Chg.grown hg2⟩
 clear ho2 hb2 hg2
 go_wp2
 go_ret
 exact ⟨a2, c2, ret1 rfl, H2.out⟩
theorem OwnF.box {g : Nat} (h : OwnF w B (some ⟨g, 0, none⟩) n c l) : ∃ cur, Box w g TF cur ∧ cur.size = c * 9 ∧ cur.toList.take (n * 9) = l.flatMap fc ∧ B ≤ g ∧ n ≤ c ∧ c ≤ maxLen := by
 rcases h.row.2 with ⟨hv, _⟩ | ⟨g', c', cur, hv, hB, hg, hn, hc, hz, ht⟩
 · cases hv
 · have eg : g' = g ∧ c' = c := by simp at hv; exact ⟨hv.1.symm, hv.2.symm⟩
   obtain ⟨rfl, rfl⟩ := eg
   exact ⟨cur, hg, hz, ht, hB, hn, hc⟩
theorem OwnF.ofBox {g : Nat} {cur : Array Value} (hb : Box w g TF cur) (hz : cur.size = c * 9) (ht : cur.toList.take (n * 9) = l.flatMap fc) (hB : B ≤ g) (hn : n ≤ c) (hc : c ≤ maxLen) (hl : l.length = n) : OwnF w B (some ⟨g, 0, none⟩) n c l :=
 ⟨hl, by rw [flat_len fc_len, hl], .inr ⟨g, c, cur, rfl, hB, hb, hn, hc, hz, ht⟩⟩
theorem row_cellsF {W : World} {a : Nat} {arr : Array Value} (hb : Box W a TF arr) (o m : Nat) : ∀ j v, ((arr.toList.take m).drop o)[j]? = some v → W.cell? ((⟨a, o, none⟩ : Addr).add j) = some v := fun j v hj => by
 rw [Addr.add_lit, hb.cell, ← Array.getElem?_toList]
 rw [List.getElem?_drop, List.getElem?_take] at hj
 split at hj
 · exact hj
 · cases hj
theorem Box.shapeF {W : World} {a : Nat} {t : TypeId} {arr : Array Value} (h : Box W a t arr) : W.shape? a = some (t, arr.size) := by
 have h' : W.heap[a]? = some (.cells arr t (0, 0)) := h
 simp [World.shape?, h']
theorem fA_cells {W : World} (hv : Box W vb TF (fA f)) : ∀ j u, (fc f)[j]? = some u → W.cell? ((⟨vb, 0, none⟩ : Addr).add j) = some u := fun j u hu => by
 rw [Addr.add_lit, Nat.zero_add, hv.cell, ← Array.getElem?_toList]
 exact hu
theorem fc_one1 (f : PF) : ∀ u ∈ fc f, u.oneCell' = true := by
 have := fc_one [f]
 simpa using this
theorem over_f {W : World} {g : Nat} {cur : Array Value} (hb : Box W g TF cur) (hv : Box W vb TF (fA f)) (hne : g ≠ vb) (hz : cur.size ≠ 0) (o la ca : Nat) : (callFunc 168 #[.slice (some ⟨vb, 0, none⟩) 1 1, .slice (some ⟨g, o, none⟩) la ca]).run Tryz.prog W = .ok (.value (.bool false)) W := by
 rw [run_callFunc_extern Tryz.func168 (by kernel_rfl) (by kernel_rfl) (by kernel_rfl) (e := Extern.SlicesOverlaps.overlaps #[41, 41] #[4]) (by kernel_rfl),
  Lib.run_overlaps_apart W 41 4 TF Tryz.underlying41 9 szF ⟨vb, 0, none⟩ ⟨g, o, none⟩ 1 1 la ca (fun e => hne e.symm) TF TF (fA f).size cur.size hv.shapeF hb.shapeF hz (hv.soft 0) (hv.soft _)]
 rfl
theorem ins_cells {L : List Value} {R : List Value} (hl : l.length = n) (hi : i ≤ n) (hL : L.take (n * 9) = l.flatMap fc) : (L.take (i * 9) ++ fc f ++ (l.drop i).flatMap fc ++ R).take ((n + 1) * 9) = (insAt l i f).flatMap fc := by
 have h1 : L.take (i * 9) = (l.take i).flatMap fc := by
  rw [← flat_take fc_len l i, ← hL, List.take_take, show min (i * 9) (n * 9) = i * 9 by omega]
 have h2 : (insAt l i f).flatMap fc = L.take (i * 9) ++ fc f ++ (l.drop i).flatMap fc := by
  unfold insAt
  rw [List.flatMap_append, List.flatMap_cons, h1, List.append_assoc]
 rw [← h2]
 have h3 : ((insAt l i f).flatMap fc).length = (n + 1) * 9 := by rw [flat_len fc_len, insAt_len l i f (by omega), hl]
 rw [← h3, List.take_left]
set_option maxHeartbeats 4000000 in
theorem insert_room {g : Nat} (h : OwnF w B (some ⟨g, 0, none⟩) n c l) (hi : i < n) (hc : n + 1 ≤ c) (hv : Box w vb TF (fA f)) (hne : g ≠ vb) (hn : n < 65536) :
 Calls Tryz.prog 116 #[.slice (some ⟨g, 0, none⟩) n c, .int .i64 (i : Int), .slice (some ⟨vb, 0, none⟩) 1 1] w fun e w' => ∃ a' c', e = .returned (.slice a' (n + 1) c') ∧ OwnF w' B a' (n + 1) c' (insAt l i f) ∧ Chg (fun k => blkOf (some ⟨g, 0, none⟩) = some k) w w' := by
 have hls := h.size
 obtain ⟨cur, hb, hz, ht, hB, hnc, hcm⟩ := h.box
 have hcl : cur.toList.length = c * 9 := by simpa using hz
 have hs1 := slLoF g n c i (by omega) hnc (by omega)
 have hs4 := slHiF g n c (n + 1) hc (by omega)
 have hs5 := slLoF g (n + 1) c (i + 1) (by omega) hc (by omega)
 have hs6 := slLoF g (n + 1) c i (by omega) hc (by omega)
 have hov := fun (la ca : Nat) => over_f hb hv hne (by omega) ((i + 1) * 9) la ca
 have hD : ((cur.toList.take (n * 9)).drop (i * 9)) = (l.drop i).flatMap fc := by rw [ht, flat_drop fc_len]
 have hDl : ((l.drop i).flatMap fc).length = (n - i) * 9 := by rw [flat_len fc_len, List.length_drop, hls]
 have hbd : Box w.drew g TF cur := hb
 obtain ⟨w2, arr2, hcp1, hb2, hl2, hc2⟩ := copy_f (o := (i + 1) * 9) (r := n + 1 - (i + 1)) (rc := c - (i + 1)) (m := n + 1 - i) (mc := c - i) (k := n - i) (a := ⟨g, i * 9, none⟩) hbd (by simp only [Nat.min_def]; split <;> omega) hDl (by rw [← hD]; exact row_cellsF hbd (i * 9) (n * 9)) (by rw [hDl]; omega) (fc_one _)
 have hv2 : Box w2 vb TF (fA f) := Box.kept (w := w.drew) hv (hc2.block _ hv.lt (fun e => hne e.symm))
 have ha2 : arr2.size = c * 9 := by
  rw [← Array.length_toList, hl2]
  simp only [List.length_append, List.length_take, List.length_drop, hDl, hcl]
  omega
 obtain ⟨w3, arr3, hcp2, hb3, hl3, hc3⟩ := copy_f (o := i * 9) (r := n + 1 - i) (rc := c - i) (m := 1) (mc := 1) (k := 1) (a := ⟨vb, 0, none⟩) (cs := fc f) hb2 (by simp only [Nat.min_def]; split <;> omega) rfl (fA_cells hv2) (by rw [fc_len, ha2]; omega) (fc_one1 f)
 have HR : Hid (OwnF w3 B (some ⟨g, 0, none⟩) (n + 1) c (insAt l i f) ∧ Chg (fun k => blkOf (some ⟨g, 0, none⟩) = some k) w w3) := by
  refine ⟨OwnF.ofBox hb3 ?_ ?_ hB hc hcm (by rw [insAt_len l i f (by omega), hls]), ?_⟩
  · rw [← Array.length_toList, hl3]
    simp only [List.length_append, List.length_take, List.length_drop, fc_len, Array.length_toList, ha2]
    omega
  · have e1 : arr2.toList.take (i * 9) = cur.toList.take (i * 9) := by
     rw [hl2, List.append_assoc, List.take_append_of_le_length (by rw [List.length_take]; omega), List.take_take, show min (i * 9) ((i + 1) * 9) = i * 9 by omega]
    have e2 : ∃ R, arr2.toList.drop (i * 9 + (fc f).length) = (l.drop i).flatMap fc ++ R := by
     have e0 : (cur.toList.take ((i + 1) * 9)).length = i * 9 + (fc f).length := by rw [List.length_take, hcl, fc_len]; omega
     exact ⟨_, by rw [hl2, List.append_assoc, ← e0, List.drop_left]⟩
    obtain ⟨R, e3⟩ := e2
    rw [hl3, e1, e3, ← List.append_assoc]
    exact ins_cells hls (by omega) ht
  · have e1 : Chg (fun k => k = g) w w.drew := (Chg.refl _ _).drew
    exact ((e1.andThen hc2 fun _ _ h => h).andThen hc3 fun _ _ h => h).wide (fun k _ e => by rw [e]; rfl)
 rw [show ((n + 1 : Nat) : Int) = (n : Int) + 1 by omega] at hs4
 rw [show ((i + 1 : Nat) : Int) = (i : Int) + 1 by omega] at hs5
 have hq2 : ((i : Int) == (n : Int)) = false := beq_eq_false_iff_ne.2 (by omega)
 have hq3 : decide ((c : Int) < (n : Int) + 1) = false := decide_eq_false (by omega)
 have hcm2 := hcm
 unfold maxLen at hcm2
 have hgk : goInt (n - i) = goInt (n - i) := rfl
 clear h hb hz ht hB hcm hcl hD hDl hbd hb2 hl2 hc2 hv2 ha2 hb3 hl3 hc3 hls hv hgk hne
 go_enter Tryz.func116, Tryz.ntmps116
 go_wp2_with (simp only [hov])
 have hwi : IntKind.i64.wrap ((i : Int) + 1) = (i : Int) + 1 := by rw [IntKind.wrap_i64]; omega
 go_region_law (refine step_copy_runI rfl _ _ 41 41 rfl _ _ (by simp [Act.eval, Act.put]) (by simp [Act.eval, Act.put]) (hcp1 _) ?_)
 go_wp2_with (at_builtin; refine wpList_copy_runI _ rfl _ _ 41 41 rfl _ _ rfl rfl (hcp2 _) ?_)
 go_ret
 exact ⟨_, _, ret1 rfl, HR.out⟩
theorem zeros_f {g : Nat} {cur : Array Value} (hb : Box w g TF cur) (hs : cur.size = c * 9) (hin : i ≤ c) {k : Nat} (hk : 0 < k) (hgr : c < i + k) (hN : i + k ≤ 70000) :
 ∃ c' w' arr, (∀ ty, (Builtin.append_ #[41, 3] ty #[.slice (some ⟨g, 0, none⟩) i c, .int .i64 (k : Int)]).run Tryz.prog w = .ok (.slice (some ⟨w.heap.size, 0, none⟩) (i + k) c') w') ∧ Box w' w.heap.size TF arr ∧ arr.size = c' * 9 ∧ arr.toList.take (i * 9) = cur.toList.take (i * 9) ∧ i + k ≤ c' ∧ c' ≤ maxLen ∧ Below w.heap.size w w' := by
 obtain ⟨i0, hi0, hz0, hz1, hz2⟩ := info_parts infoF
 have hcl : cur.toList.length = c * 9 := by simpa using hs
 have hl : (cur.toList.take (i * 9)).length = i * 9 := by rw [List.length_take]; omega
 have hold : (Builtin.firstCells i0.size i (.slice (some ⟨g, 0, none⟩) i c)).run Tryz.prog w.drew = .ok (cur.toList.take (i * 9)).toArray w.drew := run_firstCells_some w.drew _ i ⟨g, 0, none⟩ i c _ (by rw [hz1]; omega) (fun j v hj => by
  have hbd : Box w.drew g TF cur := hb
  rw [Addr.add_lit, Nat.zero_add, hbd.cell, ← Array.getElem?_toList]
  rw [List.getElem?_take] at hj
  split at hj
  · exact hj
  · cases hj)
 have hrun := fun ty => Lib.run_append_grow_zeros (P := Tryz.prog) w 41 3 ty TF i0 _ .i64 .i64 Tryz.underlying41 Tryz.underlying3 hi0 hz0 (some ⟨g, 0, none⟩) i c (cur.toList.take (i * 9)) hold k hk (by omega) hgr (by omega) (by rw [hz2]; omega) (growslice_fits hgr (by rw [hz2]; omega))
 have hge := grownCap_ge w (i + k) c TF
 refine ⟨_, _, _, hrun, Box.new w.drew TF _, ?_, ?_, hge, grownCap_le_maxLen w _ _ _ (by unfold maxLen; omega), (Below.refl _ _).drew.alloc (Nat.le_refl _) _⟩
 · simp only [Array.size_append, List.size_toArray, hl, size_zeroCells]
   rw [show (Value.agg #[.int .i64 0, .int .u64 0, .int .i64 0, .string ⟨#[]⟩, .int .u64 0, .int .i64 0, .string ⟨#[]⟩, .int .u64 0, .int .i64 0]).cells.size = 9 from rfl]
   omega
 · simp only [Array.toList_append, List.append_assoc]
   rw [List.take_append_of_le_length (by rw [hl]; exact Nat.le_refl _), List.take_of_length_le (by rw [hl]; exact Nat.le_refl _)]
set_option maxHeartbeats 4000000 in
theorem insert_grow {g : Nat} (h : OwnF w B (some ⟨g, 0, none⟩) n n l) (hi : i < n) (hv : Box w vb TF (fA f)) (hB0 : B ≤ w.heap.size) (hn : n < 65536) :
 Calls Tryz.prog 116 #[.slice (some ⟨g, 0, none⟩) n n, .int .i64 (i : Int), .slice (some ⟨vb, 0, none⟩) 1 1] w fun e w' => ∃ a' c', e = .returned (.slice a' (n + 1) c') ∧ OwnF w' B a' (n + 1) c' (insAt l i f) ∧ Chg (fun k => blkOf (some ⟨g, 0, none⟩) = some k) w w' := by
 have hls := h.size
 obtain ⟨cur, hb, hz, ht, hB, hnc, hcm⟩ := h.box
 have hcl : cur.toList.length = n * 9 := by simpa using hz
 have hs1 := slLoF g n n i (by omega) hnc (by omega)
 have hs2 := slHiF g n n i (by omega) (by omega)
 obtain ⟨c', w1, arr, hap, hbx, hsz, htk, hle, hmx, hbl⟩ := zeros_f hb hz (i := i) (k := n + 1 - i) (by omega) (by omega) (by omega) (by omega)
 have hvl := hv.lt
 have hgl := hb.lt
 have hv1 : Box w1 vb TF (fA f) := hv.kept (hbl.block _ hvl)
 have hb1g : Box w1 g TF cur := hb.kept (hbl.block _ hgl)
 have hD : ((cur.toList.take (n * 9)).drop (i * 9)) = (l.drop i).flatMap fc := by rw [ht, flat_drop fc_len]
 have hDl : ((l.drop i).flatMap fc).length = (n - i) * 9 := by rw [flat_len fc_len, List.length_drop, hls]
 obtain ⟨w2, arr2, hcp1, hb2, hl2, hc2⟩ := copy_f (o := i * 9) (r := n + 1 - i) (rc := c' - i) (m := 1) (mc := 1) (k := 1) (a := ⟨vb, 0, none⟩) (cs := fc f) hbx (by simp only [Nat.min_def]; split <;> omega) rfl (fA_cells hv1) (by rw [fc_len, hsz]; omega) (fc_one1 f)
 have hb2g : Box w2.drew g TF cur := Box.kept (w := w1) hb1g (hc2.block _ hb1g.lt (by omega))
 have hb2d : Box w2.drew w.heap.size TF arr2 := hb2
 have harl : arr.toList.length = c' * 9 := by simpa using hsz
 have hasz : arr2.size = c' * 9 := by
  rw [← Array.length_toList, hl2]
  simp only [List.length_append, List.length_take, List.length_drop, fc_len, harl]
  omega
 obtain ⟨w3, arr3, hcp2, hb3, hl3, hc3⟩ := copy_f (o := (i + 1) * 9) (r := n + 1 - (i + 1)) (rc := c' - (i + 1)) (m := n - i) (mc := n - i) (k := n - i) (a := ⟨g, i * 9, none⟩) hb2d (by simp only [Nat.min_def]; split <;> omega) hDl (by rw [← hD]; exact row_cellsF hb2g (i * 9) (n * 9)) (by rw [hDl, hasz]; omega) (fc_one _)
 have HR : Hid (OwnF w3 B (some ⟨w.heap.size, 0, none⟩) (n + 1) c' (insAt l i f) ∧ Chg (fun k => blkOf (some ⟨g, 0, none⟩) = some k) w w3) := by
  refine ⟨OwnF.ofBox hb3 ?_ ?_ hB0 (by omega) hmx (by rw [insAt_len l i f (by omega), hls]), ?_⟩
  · rw [← Array.length_toList, hl3]
    simp only [List.length_append, List.length_take, List.length_drop, hDl, Array.length_toList, hasz]
    omega
  · have e1 : arr2.toList.take ((i + 1) * 9) = arr.toList.take (i * 9) ++ fc f := by
     have e0 : (arr.toList.take (i * 9) ++ fc f).length = (i + 1) * 9 := by rw [List.length_append, List.length_take, harl, fc_len]; omega
     rw [hl2, ← e0, List.take_left]
    rw [hl3, e1, htk]
    exact ins_cells hls (by omega) ht
  · have hB3 : Below w.heap.size w w3 := by
     have e2 : Below w.heap.size w w2 := hbl.trans (hc2.below (fun k hk => by omega) hbl.size)
     have e3 : Below w.heap.size w w2.drew := e2.drew
     exact e3.trans (hc3.below (fun k hk => by omega) e3.size)
    exact Chg.of hB3
 have hsA := slLoF w.heap.size (n + 1) c' i (by omega) (by omega) (by omega)
 have hsB := slLoF w.heap.size (n + 1) c' (i + 1) (by omega) (by omega) (by omega)
 rw [show ((i + 1 : Nat) : Int) = (i : Int) + 1 by omega] at hsB
 rw [show i + (n + 1 - i) = n + 1 by omega, show ((n + 1 - i : Nat) : Int) = (n : Int) + 1 - (i : Int) by omega] at hap
 have hq2 : ((i : Int) == (n : Int)) = false := beq_eq_false_iff_ne.2 (by omega)
 have hmx2 := hmx
 unfold maxLen at hmx2
 clear h hb hz ht hB hcm hcl hbx hsz htk hmx hbl hvl hgl hv1 hb1g hD hDl hb2 hl2 hc2 hb2g hb2d harl hasz hb3 hl3 hc3 hls hv hB0
 go_enter Tryz.func116, Tryz.ntmps116
 go_wp2_with (at_builtin; first | refine Lib.wpList_append_run _ rfl _ _ 41 3 rfl _ _ rfl rfl _ _ (hap _) ?_ | refine wpList_copy_runI _ rfl _ _ 41 41 rfl _ _ rfl rfl (hcp1 _) ?_)
 have hwi : IntKind.i64.wrap ((i : Int) + 1) = (i : Int) + 1 := by rw [IntKind.wrap_i64]; omega
 go_region_law (refine step_copy_runI rfl _ _ 41 41 rfl _ _ (by simp [Act.eval, Act.put]) (by simp [Act.eval, Act.put]) (hcp2 _) ?_)
 go_wp2
 go_ret
 exact ⟨_, _, ret1 rfl, HR.out⟩
theorem insert_any (h : OwnF w B a n c l) (hi : i ≤ n) (hv : Box w vb TF (fA f)) (hne : ∀ g, blkOf a = some g → g ≠ vb) (hB : B ≤ w.heap.size) (hn : n < 65536) :
 Calls Tryz.prog 116 #[.slice a n c, .int .i64 (i : Int), .slice (some ⟨vb, 0, none⟩) 1 1] w fun e w' => ∃ a' c', e = .returned (.slice a' (n + 1) c') ∧ OwnF w' B a' (n + 1) c' (insAt l i f) ∧ Chg (fun k => blkOf a = some k) w w' := by
 by_cases e : i = n
 · subst e
   exact insert_last h hv hB hn
 · obtain ⟨h1, h2, h3, h4⟩ := row_addr h.row
   obtain ⟨g, rfl⟩ := h4 (by omega)
   by_cases e2 : c = n
   · subst e2
     exact insert_grow h (by omega) hv hB hn
   · exact insert_room h (by omega) (by omega) hv (hne g rfl) hn
end
end Go.Proofs.YtmlfbihlbiikeaaGreatDoor
namespace Go.Proofs.YtmlfbihlbiikeaaGreatDoor
open Go.RowKit
abbrev TM : TypeId := 132
def intElem : Value → Option (DataW Unit × List MemPlace)
 | .int .i64 n => some (.lit (.int .i64 n), [])
 | _ => none
theorem intElem_inv {v : Value} {z : DataW Unit × List MemPlace} (h : intElem v = some z) : ∃ n : Int, v = .int .i64 n ∧ z = (.lit (.int .i64 n), []) := by
 unfold intElem at h
 split at h
 · exact ⟨_, rfl, (Option.some.inj h).symm⟩
 · cases h
theorem lawU : Maps.Keyed Tryz.prog TU := Maps.int_keyed Tryz.underlying23
abbrev litU (q : Nat) : Lit := .int .u64 (q : Int)
def WfU (q : Nat) : Prop := q < 18446744073709551616
theorem keyU {q : Nat} (h : WfU q) : keyOf Tryz.prog TU (.int .u64 (q : Int)) = some (litU q) := by
 refine Maps.keyOf_int_mk Tryz.underlying23 ?_
 unfold WfU at h
 simp [Lit.wf, IntKind.min, IntKind.max, IntKind.signed, IntKind.bits]
 omega
theorem litU_ne {p q : Nat} (h : p ≠ q) : litU p ≠ litU q := fun e => h (by simp at e; omega)
theorem zeroI (w : World) : (zeroValue 3).run Tryz.prog w = .ok (.int .i64 0) w := by kernel_rfl
theorem keyLitU (q : Nat) : WideAt.IsKeyLit (litU q) := trivial
def MpL (w : World) (b n : Nat) (f : Nat → Option Int) : Prop := ∃ D : DataW Unit, w.ownsMap Tryz.prog TU intElem b n D ∧ ∀ q, WfU q → Maps.has D (litU q) = (f q).isSome ∧ ∀ l, f q = some l → ∀ z, D.atKey (litU q) z = .lit (.int .i64 l)
section
variable {w w' : World} {b n : Nat} {f : Nat → Option Int}
theorem MpL.kept (h : MpL w b n f) (hk : w'.heap[b]? = w.heap[b]?) : MpL w' b n f := by
 obtain ⟨D, ⟨es, clock, hb, F, hs, hD⟩, h2⟩ := h
 exact ⟨D, ⟨es, clock, hk.trans hb, F, hs, hD⟩, h2⟩
theorem MpL.tag (h : MpL w b n f) : tag w b = some 1000 := by
 obtain ⟨D, ⟨es, clock, hb, _⟩, _⟩ := h
 simp [Go.Proofs.YtmlfbihlbiikeaaGreatDoor.tag, hb, tagOf]
theorem MpL.lt (h : MpL w b n f) : b < w.heap.size := tag_lt h.tag
theorem MpL.made (w : World) : MpL (w.alloc (.map #[] 0)) w.heap.size 0 (fun _ => none) := by
 refine ⟨.map [], World.ownsMap_made w Tryz.prog TU intElem, fun q _ => ⟨by simp [Maps.has], fun l hl => by cases hl⟩⟩
theorem MpL.look (h : MpL w b n f) {q : Nat} (hq : WfU q) : ∃ (x : Int) (c : Bool), c = (f q).isSome ∧ (∀ l, f q = some l → x = l) ∧ (Instr.lookup TM (.map (some b)) (.int .u64 (q : Int)) true).run Tryz.prog w = .ok (.tuple #[.int .i64 x, .bool c]) w := by
 obtain ⟨D, h1, h2⟩ := h
 obtain ⟨v, ps, hr, hv⟩ := h1.look_ok lawU Tryz.underlying132 (zeroI w) (zd := .lit (.int .i64 0)) (zp := []) rfl (keyU hq)
 obtain ⟨x, rfl, hx⟩ := intElem_inv hv
 refine ⟨x, _, (h2 q hq).1, fun l hl => ?_, hr⟩
 rw [(h2 q hq).2 l hl] at hx
 simp at hx
 exact hx.1.symm
theorem turned_chg (h : w.mapTurned w' b) : Chg (fun k => k = b) w w' := by
 have hg := h.grown
 exact (Chg.grown hg).wide (fun k _ e => (Option.some.inj e).symm)
theorem MpL.store (h : MpL w b n f) {q : Nat} (hq : WfU q) (l : Int) (hn : n < 1000000) : ∃ w', (Instr.mapUpdate TM (.map (some b)) (.int .u64 (q : Int)) (.int .i64 l)).run Tryz.prog w = .ok () w' ∧ MpL w' b (n + 1) (fun p => if p = q then some l else f p) ∧ Chg (fun k => k = b) w w' := by
 obtain ⟨D, h1, h2⟩ := h
 obtain ⟨w', hr, ho, ht⟩ := h1.store lawU Tryz.underlying132 (by unfold maxLen; omega) (keyU hq) (val := .int .i64 l) (d := .lit (.int .i64 l)) (ps := []) rfl
 refine ⟨w', hr, ⟨_, ho, fun p hp => ?_⟩, turned_chg ht⟩
 by_cases e : p = q
 · subst e
   simp only [if_true]
   rw [Maps.has_put_same h1.isMap (keyLitU p)]
   exact ⟨rfl, fun l' hl' z => by rw [Maps.atKey_put_same h1.isMap (keyLitU p), Option.some.inj hl']⟩
 · simp only [if_neg e]
   rw [Maps.has_put_other (litU_ne e)]
   exact ⟨(h2 p hp).1, fun l' hl' z => by rw [Maps.atKey_put_other (litU_ne e)]; exact (h2 p hp).2 l' hl' z⟩
theorem MpL.drop (h : MpL w b n f) {q : Nat} (hq : WfU q) (ty : TypeId) : ∃ w', (Builtin.delete_ #[TM, TU] ty #[.map (some b), .int .u64 (q : Int)]).run Tryz.prog w = .ok (.tuple #[]) w' ∧ MpL w' b n (fun p => if p = q then none else f p) ∧ Chg (fun k => k = b) w w' := by
 obtain ⟨D, h1, h2⟩ := h
 obtain ⟨w', hr, ho, ht⟩ := h1.drop lawU Tryz.underlying132 (keyU hq) ty
 refine ⟨w', hr, ⟨_, ho, fun p hp => ?_⟩, turned_chg ht⟩
 by_cases e : p = q
 · subst e
   simp only [if_true]
   rw [Maps.has_del_same]
   exact ⟨rfl, fun l' hl' => by cases hl'⟩
 · simp only [if_neg e]
   rw [Maps.has_del_other (litU_ne e)]
   exact ⟨(h2 p hp).1, fun l' hl' z => by rw [Maps.atKey_del_other (litU_ne e)]; exact (h2 p hp).2 l' hl' z⟩
end
end Go.Proofs.YtmlfbihlbiikeaaGreatDoor
