/- The contract of the table's All. -/
import Derived.Test.YtnggajconglfcaaDoorM8Ent
import Derived.Laws.CopyRow
namespace Go.Proofs.YtnggajconglfcaaDoor
open Go.RowKit
set_option linter.unusedVariables false
set_option linter.unusedSimpArgs false
theorem setRow_box {w : World} {g : Nat} {cur new : Array Value} {t : TypeId} (h : Box w g t cur) : Box (w.setRow g new) g t new := by
  have h' : w.heap[g]? = some (.cells cur t (0, 0)) := h
  have hlt := h.lt
  show (w.setRow g new).heap[g]? = some (.cells new t (0, 0))
  simp [World.setRow, Array.getElem?_modify, h']
theorem setRow_chg (w : World) (g : Nat) (new : Array Value) : Chg (fun k => k = g) w (w.setRow g new) := by
  refine ⟨rfl, rfl, rfl, by simp [World.setRow], fun k hk hn => ?_⟩
  simp only [World.setRow, Array.getElem?_modify]
  rw [if_neg (fun e => hn e.symm)]
theorem cellsKV_one (l : List KV) : ∀ u ∈ cellsKV l, u.oneCell' = true := by
  intro u hu
  obtain ⟨e, _, he⟩ := List.mem_flatMap.1 hu
  simp only [kvc, List.mem_cons, List.mem_nil_iff, or_false] at he
  rcases he with rfl | rfl | rfl | rfl <;> rfl
theorem copy_kv {w : World} {g b m q r : Nat} {arr src : Array Value} {l : List KV} (hd : Box w g TKV arr) (hs : Box w b TKV src) (hsl : src.toList = cellsKV l) (hl : l.length = q) (hfit : (m + q) * 4 ≤ arr.size) (hq : q ≤ r) :
    ∃ W2 arr2, (Builtin.copy_ #[27, 27] 3 #[.slice (some ⟨g, m * 4, none⟩) r r, .slice (some ⟨b, 0, none⟩) q q]).run Tryd.prog w = .ok (.int .i64 (q : Int)) W2 ∧ Box W2 g TKV arr2 ∧ arr2.size = arr.size ∧ (∀ j, j < m * 4 → arr2[j]? = arr[j]?) ∧ (∀ j, j < q * 4 → arr2[m * 4 + j]? = (cellsKV l)[j]?) ∧ Chg (fun k => k = g) w W2 ∧ W2.heap.size = w.heap.size := by
  have hcl : (cellsKV l).length = q * 4 := by rw [cellsKV_len, hl]
  have hmin : Nat.min q r = q := Nat.min_eq_left hq
  have hload := run_loadCells_list (P := Tryd.prog) w ⟨b, 0, none⟩ (cellsKV l) (fun j v hv => by
    rw [Addr.add_lit, Nat.zero_add, hs.cell, ← Array.getElem?_toList, hsl]
    exact hv)
  have hst := run_storeCells_at Tryd.prog g (m * 4) TKV (cellsKV l) 0 arr w hd (by rw [hcl]; omega) (cellsKV_one l)
  rw [hcl] at hload hst
  obtain ⟨i, hi, hzz⟩ := Option.map_eq_some_iff.1 infoKV
  simp only [Prod.mk.injEq] at hzz
  refine ⟨_, (arr.toList.take (m * 4) ++ cellsKV l ++ arr.toList.drop (m * 4 + q * 4)).toArray, ?_, setRow_box hd, ?_, fun j hj => ?_, fun j hj => ?_, setRow_chg w g _, by simp [World.setRow]⟩
  · simp only [Nat.add_zero] at hst
    simp [Builtin.copy_, run_underlying Tryd.underlying27, Builtin.lenOf, Builtin.firstCells, sizeOf, typeInfo, hi, hzz.2.1, hmin, hload, hst, goInt]
  · simp [hcl]
    omega
  · have hlt : j < arr.toList.length := by simp; omega
    rw [List.getElem?_toArray, List.append_assoc, List.getElem?_append_left (by simp; omega), List.getElem?_take, if_pos hj, Array.getElem?_toList]
  · rw [List.getElem?_toArray, List.append_assoc, List.getElem?_append_right (by simp; omega)]
    have e : m * 4 + j - (arr.toList.take (m * 4)).length = j := by simp; omega
    rw [e, List.getElem?_append_left (by rw [hcl]; exact hj)]
theorem cut_kv (w : World) (g m q r : Nat) (hq : q ≤ r) : ∃ ra : Option Addr, (q < r → ra = some ⟨g, (m + q) * 4, none⟩) ∧ ∀ W : World, (Instr.slice 27 (.slice (some ⟨g, m * 4, none⟩) r r) (some (.int .i64 (q : Int))) none none).run Tryd.prog W = .ok (.slice ra (r - q) (r - q)) W := by
  refine ⟨if r = q then some ⟨g, m * 4, none⟩ else some ⟨g, (m + q) * 4, none⟩, fun h => by rw [if_neg (by omega)], fun W => ?_⟩
  have hsz : (sizeOf TKV).run Tryd.prog W = .ok 4 W := by kernel_rfl
  have h1 : (0 : Int) ≤ (q : Int) ∧ (q : Int) ≤ (r : Int) := by omega
  have e : m * 4 + q * 4 = (m + q) * 4 := by omega
  simp [Instr.slice, run_underlying Tryd.underlying27, Instr.sliceBounds, Instr.sliceBound, asIntOf, hq, hsz, Addr.add_lit, e, go_sem]
theorem cellsKV_append (a b : List KV) : cellsKV (a ++ b) = cellsKV a ++ cellsKV b := by simp [cellsKV]
/-- A row of keys with values of the call's own. -/
structure OwnK (w : World) (B : Nat) (a : Option Addr) (n : Nat) (l : List KV) : Prop where
  size : l.length = n
  here : ∃ b arr, a = some ⟨b, 0, none⟩ ∧ B ≤ b ∧ Box w b TKV arr ∧ arr.toList = cellsKV l
theorem OwnK.ks {w : World} {B : Nat} {a : Option Addr} {n : Nat} {l : List KV} (h : OwnK w B a n l) (hn : n ≤ maxLen) : KsAt w a n n l := ⟨h.size, Nat.le_refl _, hn, fun _ => by
  obtain ⟨b, arr, ha, _, hb, hl⟩ := h.here
  exact ⟨b, 0, ha, fun j hj => by rw [Nat.zero_add, hb.cell, ← Array.getElem?_toList, hl]⟩⟩
theorem arr_cells {arr : Array Value} {l : List KV} {n : Nat} (hs : arr.size = n * 4) (hl : l.length = n) (h : ∀ j, j < n * 4 → arr[j]? = (cellsKV l)[j]?) : arr.toList = cellsKV l := by
  apply List.ext_getElem?
  intro j
  rw [Array.getElem?_toList]
  by_cases hj : j < n * 4
  · exact h j hj
  · rw [Array.getElem?_eq_none (by omega), List.getElem?_eq_none (by rw [cellsKV_len]; omega)]
section
variable {w w' : World} {p : Nat} {T : PT} {G : TG}
/-- The entries of one list. -/
theorem TbAt.piece (h : TbAt w p T G) {k : Nat} (hk : k < G.ls.length) : ∃ q, G.ls[k].t.length = q ∧ 0 < q ∧ q ≤ 1000 ∧ (Go.Proofs.YtnggajconglfcaaDoor.texts (G.ls.take (k + 1))).length = (Go.Proofs.YtnggajconglfcaaDoor.texts (G.ls.take k)).length + q ∧ (Go.Proofs.YtnggajconglfcaaDoor.texts (G.ls.take k)).length + q ≤ T.kvs.length ∧ G.ls[k].t = ((T.kvs.drop (Go.Proofs.YtnggajconglfcaaDoor.texts (G.ls.take k)).length).take q).map (·.1.txt) := by
  have hli := h.sh.each _ (List.getElem_mem hk)
  have hlen := hli.at'.inv.lk_len hli.all
  have hr := hli.at'.inv.size
  have hr2 := hli.room
  have e0 : G.ls[k].t.length = G.ls[k].S.ops.length := hlen
  have e1 := texts_split hk
  have e2 : Go.Proofs.YtnggajconglfcaaDoor.texts (G.ls.take (k + 1)) = Go.Proofs.YtnggajconglfcaaDoor.texts (G.ls.take k) ++ G.ls[k].t := by
    unfold Go.Proofs.YtnggajconglfcaaDoor.texts
    rw [List.take_succ_eq_append_getElem hk, List.flatMap_append, List.flatMap_cons, List.flatMap_nil, List.append_nil]
  rw [h.texts] at e1
  have hl := congrArg List.length e1
  rw [List.length_map, List.length_append, List.length_append] at hl
  refine ⟨G.ls[k].t.length, rfl, by rw [e0]; exact hli.pos, by omega, by rw [e2, List.length_append], by omega, ?_⟩
  rw [List.map_take, List.map_drop, e1, List.drop_left', List.take_left']
  · rfl
  · rfl
set_option maxRecDepth 100000 in
set_option maxHeartbeats 1000000 in
theorem all_at (h : TbAt w p T G) (hN : T.kvs.length ≤ 5864062014805) (hg : Glob w) : Calls Tryd.prog 18 #[at_ p] w fun e w' => ∃ a, e = .returned (.slice a T.kvs.length T.kvs.length) ∧ OwnK w' w.heap.size a T.kvs.length T.kvs ∧ Below w.heap.size w w' := by
  have HA : Hid (TbAt w p T G) := h
  have HG : Hid (Glob w) := hg
  have cm : w.cell? ⟨p, 1, none⟩ = some (.map G.m) := h.box.cell 1
  have hlen := fun (ty : TypeId) => h.map.len ty
  have hll := h.sh.len_le
  have hfew := h.few
  unfold maxLen at hll
  obtain ⟨arr0, ha0, hmk⟩ := made_kv T.kvs.length hN w
  have hB0 : Below w.heap.size w (w.alloc (.cells arr0 TKV)) := (Below.refl _ _).alloc (Nat.le_refl _) _
  have cl : (w.alloc (.cells arr0 TKV)).cell? ⟨p, 0, none⟩ = some (.slice G.la G.ls.length G.lc) := by rw [hB0.cell h.box.lt]; exact h.box.cell 0
  have HB0 : Hid (Box (w.alloc (.cells arr0 TKV)) w.heap.size TKV arr0 ∧ arr0.size = T.kvs.length * 4 ∧ Below w.heap.size w (w.alloc (.cells arr0 TKV))) := ⟨Box.new w TKV arr0, ha0, hB0⟩
  have hpl := h.box.lt
  clear h hg ha0 hB0
  generalize hNN : T.kvs.length = N at *
  generalize hLL : G.ls.length = L at *
  have HNN : Hid (T.kvs.length = N ∧ G.ls.length = L) := ⟨hNN, hLL⟩
  clear hNN hLL
  go_enter Tryd.func18, Tryd.ntmps18
  go_wp2_with fail
  go_loopw [4, 23] (fun y x wr => ∃ (k m : Nat) (ra : Option Addr), k ≤ L ∧ m ≤ N ∧ x = .int .i64 (k : Int) ∧ y = .slice ra (N - m) (N - m) ∧ Hid ((Go.Proofs.YtnggajconglfcaaDoor.texts (G.ls.take k)).length = m ∧ (m < N → ra = some ⟨w.heap.size, m * 4, none⟩) ∧ Below w.heap.size w wr ∧ ∃ arr, Box wr w.heap.size TKV arr ∧ arr.size = N * 4 ∧ ∀ j, j < m * 4 → arr[j]? = (cellsKV T.kvs)[j]?)) (fun _ x _ => L - (intOf x).toNat)
  case atStart => exact ⟨0, 0, some ⟨w.heap.size, 0, none⟩, Nat.zero_le _, Nat.zero_le _, rfl, by rw [Nat.sub_zero], by simp [Go.Proofs.YtnggajconglfcaaDoor.texts], fun _ => by rw [Nat.zero_mul], HB0.out.2.2, arr0, HB0.out.1, HB0.out.2.1, fun j hj => absurd hj (by omega)⟩
  case round =>
    obtain ⟨k, m, ra, hk, hm, rfl, rfl, HR⟩ := hrel
    by_cases hkL : k < L
    · obtain ⟨r0, r1, r2, arr, r3, r4, r5⟩ := HR.out
      have hkl : k < G.ls.length := by rw [HNN.out.2]; exact hkL
      have A1 := HA.out.below r2
      obtain ⟨b, hla, hc⟩ := A1.sh.cell hkl
      obtain ⟨q, q1, q2, q3, q4, q5, q6⟩ := A1.piece hkl
      rw [r0] at q4 q5 q6
      rw [HNN.out.1] at q5
      have hli := A1.sh.each _ (List.getElem_mem hkl)
      have HKy := keys_at hli.at' (l := 0) (by decide)
      have hlq : (G.ls[k].S.lev 0).length = q := by
        rw [← q1]
        simp [LG.t, PS.lk]
      rw [hlq] at HKy
      rw [show G.ls[k].S.lk 0 = G.ls[k].t from rfl, q6] at HKy
      generalize hpart : (T.kvs.drop m).take q = part at HKy
      have hpl' : part.length = q := by rw [← hpart, List.length_take, List.length_drop, HNN.out.1]; omega
      have HP : Hid ((T.kvs.drop m).take q = part ∧ part.length = q ∧ ∀ e ∈ part, e ∈ T.kvs) := ⟨hpart, hpl', fun e he => by rw [← hpart] at he; exact List.mem_of_mem_drop (List.mem_of_mem_take he)⟩
      have hra := r1 (by omega)
      subst hra
      have hidx := fun W => idxList W (a := G.la) (b := b) (off := 0) (n := L) (c := G.lc) hla hkL
      simp only [Nat.zero_add] at hidx
      obtain ⟨ra', hra', hcut⟩ := cut_kv wr w.heap.size m q (N - m) (by omega)
      have HQ : Hid (Below w.heap.size w wr ∧ Box wr w.heap.size TKV arr ∧ arr.size = N * 4 ∧ (∀ j, j < m * 4 → arr[j]? = (cellsKV T.kvs)[j]?) ∧ (Go.Proofs.YtnggajconglfcaaDoor.texts (G.ls.take (k + 1))).length = m + q ∧ (q < N - m → ra' = some ⟨w.heap.size, (m + q) * 4, none⟩)) := ⟨r2, r3, r4, r5, q4, hra'⟩
      generalize G.ls[k].p = pk at hc HKy
      clear r0 r1 r2 r3 r4 r5 A1 hla q1 q4 q6 hli hpart hlq hra'
      go_wp2_with fail
      refine HKy.mono ?_
      rintro _ w2 ⟨ka, kc, rfl, ho, hb2⟩
      have hB2 : Below w.heap.size w w2 := HQ.out.1.trans (hb2.mono HQ.out.1.size)
      have HEn := entries_at (HA.out.below hB2) (l := part) ho.st HP.out.2.2 (by omega) (HG.out.of_below0 hB2)
      have HB2 : Hid (Below wr.heap.size wr w2 ∧ Below w.heap.size w w2) := ⟨hb2, hB2⟩
      clear HKy ho hb2 hB2
      go_wp2_with fail
      refine HEn.mono ?_
      rintro _ w3 ⟨sb, rfl, hsb, ⟨src, hs1, hs2, hs3⟩, hb3⟩
      have bx3 : Box w3 w.heap.size TKV arr := (HQ.out.2.1.kept (HB2.out.1.block _ HQ.out.2.1.lt)).kept (hb3.block _ (Nat.lt_of_lt_of_le HQ.out.2.1.lt HB2.out.1.size))
      obtain ⟨w4, arr4, hcp, c1, c2, c3, c4, c5, c6⟩ := copy_kv (m := m) (r := N - m) bx3 hs1 (arr_cells hs2 HP.out.2.1 hs3) HP.out.2.1 (by rw [HQ.out.2.2.1]; omega) (by omega)
      have HE : Hid (Below w.heap.size w w4 ∧ Box w4 w.heap.size TKV arr4 ∧ arr4.size = N * 4 ∧ ∀ j, j < (m + q) * 4 → arr4[j]? = (cellsKV T.kvs)[j]?) := by
        have hB3 : Below w.heap.size w w3 := HB2.out.2.trans (hb3.mono HB2.out.2.size)
        refine ⟨hB3.trans (c5.below (fun x hx => by omega) hB3.size), c1, by rw [c2]; exact HQ.out.2.2.1, fun j hj => ?_⟩
        by_cases h0 : j < m * 4
        · rw [c3 j h0]
          exact HQ.out.2.2.2.1 j h0
        · obtain ⟨i, rfl⟩ : ∃ i, j = m * 4 + i := ⟨j - m * 4, by omega⟩
          rw [c4 i (by omega)]
          have e1 : T.kvs = T.kvs.take m ++ (part ++ T.kvs.drop (m + q)) := by
            rw [← HP.out.1, ← List.drop_drop, List.take_append_drop, List.take_append_drop]
          conv => rhs; rw [e1]
          rw [cellsKV_append, List.getElem?_append_right (by rw [cellsKV_len, List.length_take, HNN.out.1]; omega), cellsKV_append]
          rw [show m * 4 + i - (cellsKV (T.kvs.take m)).length = i by rw [cellsKV_len, List.length_take, HNN.out.1]; omega]
          rw [List.getElem?_append_left (by rw [cellsKV_len, HP.out.2.1]; omega)]
      clear HEn hb3 hs1 hs2 hs3 bx3 c1 c2 c3 c4 c5 c6
      go_wp2
      go_roundw
      case rel => exact ⟨k + 1, m + q, ra', by omega, by omega, by go_num, by rw [show N - (m + q) = N - m - q by omega], HQ.out.2.2.2.2.1, fun hlt => HQ.out.2.2.2.2.2 (by omega), HE.out.1, arr4, HE.out.2⟩
      case measure => simp only [intOf]; omega
    · go_wp2
      go_ret
      obtain ⟨r0, r1, r2, arr, r3, r4, r5⟩ := HR.out
      have e : m = N := by
        rw [← r0, List.take_of_length_le (by rw [HNN.out.2]; omega), HA.out.texts, List.length_map, HNN.out.1]
      subst e
      exact ⟨some ⟨w.heap.size, 0, none⟩, ret1 rfl, ⟨HNN.out.1, w.heap.size, arr, rfl, Nat.le_refl _, r3, arr_cells r4 HNN.out.1 r5⟩, r2⟩
end
end Go.Proofs.YtnggajconglfcaaDoor
