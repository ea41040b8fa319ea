/- The contract of bloom.May: whether a key may be there is what the plain function mayN tells. -/
import Derived.Test.YtgegjcnjlibfdaaGreatQa14
import Derived.Test.YtgegjcnjlibfdaaGreatT12Open
namespace Go.Proofs.YtgegjcnjlibfdaaGreat
open Go.RowKit Go.Shelf
attribute [local go_sem] Oper.semAt_some

theorem and_bitF : ∀ c : Fin 256, ∀ k : Fin 8, (bits .and .u8 ((c.val : Nat) : Int) (2 ^ k.val % 256) == 0) = !(c.val.testBit k.val) := by decide +kernel
theorem and_bit (c k : Nat) (hc : c < 256) (hk : k < 8) : (bits .and .u8 (c : Int) (2 ^ k % 256) == 0) = !(c.testBit k) := and_bitF ⟨c, hc⟩ ⟨k, hk⟩
/-- Between two rounds. -/
def MyI (w : World) (a : Option Addr) (len cap : Nat) (bs : List UInt8) {count : Nat} (pre : List (PlX count)) (W : World) : Prop :=
  Below w.heap.size w W ∧ Boxed W w.heap.size 27 (.slice a len cap) ∧ Boxed W (w.heap.size + 1) 4 (.bool false) ∧ ∀ p ∈ PlX.nums pre, bitAt bs p = true
/-- A round has found a bit that is not set. -/
def MyX (w : World) (bs : List UInt8) {count : Nat} (c : Code) (pre : List (PlX count)) (W : World) : Prop :=
  c = .ret ∧ Below w.heap.size w W ∧ Boxed W (w.heap.size + 1) 4 (.bool false) ∧ ∃ p ∈ PlX.nums pre, bitAt bs p = false
theorem boxed_ownF {B₀ : Nat} {W W' : World} {row : Option Nat} {B : Nat} {t : TypeId} {v : Value} (h : Boxed W B t v) (hg : W.grownBy W' row) (hr : ∀ r, row = some r → B₀ ≤ r ∧ ∃ o : Obj, W.heap[r]? = some o ∧ o.isCells = false) : Boxed W' B t v := by
  refine h.kept hg (fun e => ?_)
  obtain ⟨_, o, ho, hcl⟩ := hr _ e.symm
  rw [show W.heap[B]? = _ from h] at ho
  cases ho
  cases hcl
theorem myI_own (w : World) (a : Option Addr) (len cap : Nat) (bs : List UInt8) {count B : Nat} (hB : w.heap.size ≤ B) : OwnFrom B (MyI w a len cap bs (count := count)) := by
  rintro pre W W' row ⟨h1, h2, h3, h4⟩ hg hr
  exact ⟨h1.grown hg h1.size (fun k e => by have := (hr k e).1; omega), boxed_ownF h2 hg hr, boxed_ownF h3 hg hr, h4⟩
theorem myX_own (w : World) (bs : List UInt8) {count B : Nat} (hB : w.heap.size ≤ B) (c : Code) : OwnFrom B (MyX w bs (count := count) c) := by
  rintro pre W W' row ⟨h0, h1, h3, h4⟩ hg hr
  exact ⟨h0, h1.grown hg h1.size (fun k e => by have := (hr k e).1; omega), boxed_ownF h3 hg hr, h4⟩

set_option maxRecDepth 100000 in
set_option maxHeartbeats 2000000 in
theorem may_range (a : Option Addr) (m cap : Nat) (bs : List UInt8) (s : ByteArray) (w : World) (h : BsAt w a (m + 1) cap bs) (hl : m + 1 ≤ 140737488355328) (hs : s.size ≤ 140737488351232) (h1 : 1 ≤ m) (pr : Nat) (hpr : (bs.getD m 0).toNat = pr) (hp1 : 1 ≤ pr) (hp2 : pr ≤ 30) :
    Calls Tryz.prog 46 #[.slice a ((m + 1 : Nat)) cap, .string s] w fun e w' => e = .returned (.bool ((plc s.data.toList (8 * m) pr).all fun p => bitAt bs p)) ∧ Below w.heap.size w w' := by
  obtain ⟨b, off, rfl, hc⟩ := h.here (by omega)
  have HBS : Hid (BsAt w (some ⟨b, off, none⟩) (m + 1) cap bs) := h
  have HC : Hid (∀ j, j < m + 1 → w.cell? ⟨b, off + j, none⟩ = some (.int .u8 ((bs.getD j 0).toNat : Int))) := hc
  have hlast := hc m (by omega)
  rw [hpr] at hlast
  have hbl : b < w.heap.size := World.block_lt_of_cell? w _ hlast
  have hbl1 : b < w.heap.size + 1 := by omega
  have hcap := h.le
  have hmax := h.max
  unfold maxLen at hmax
  clear h hc hpr
  have hmix : Tryz.prog.follows Departure.mixedOrders = true := by kernel_rfl
  refine (callsIn_wide (n := 6)).1 ?_
  refine callsIn_of_wp_marks Tryz.func46 rfl trivial ?_ rfl
  simp only [Tryz.ntmps46, List.size_toArray, List.length_cons, List.length_nil, Nat.reduceAdd, Nat.reduceSub, Array.replicate_succ, Array.replicate_zero, List.push_toArray, List.append_toArray, List.nil_append, List.cons_append]
  gi_wp2_with (refine ⟨trivial, ?_⟩; gi_at_call 56; refine (callsIn_wide.2 (places_any _ _ _ (by omega) _)).mono ?_; rintro e w1 ⟨rfl, hb1, hz1, x0, x1, x2⟩)
  simp only [Nat.add_assoc, Nat.reduceAdd] at *
  simp only [World.size_alloc, Nat.add_assoc, Nat.reduceAdd] at hb1 hz1 x0 x1 x2
  have hb2 : Below w.heap.size w w1 := (((Below.refl _ w).alloc (Nat.le_refl _) _).alloc (by simp) _).trans (hb1.mono (by simp))
  have y0 : Boxed w1 w.heap.size 27 (.slice (some ⟨b, off, none⟩) (m + 1) cap) := (hb1.block _ (by omega)).trans ((Boxed.new w 27 (.slice (some ⟨b, off, none⟩) (m + 1) cap)).alloc (.cells #[.bool false] 4))
  have y1 : Boxed w1 (w.heap.size + 1) 4 (.bool false) := (hb1.block _ (by omega)).trans (by have := Boxed.new (w.alloc (.cells #[.slice (some ⟨b, off, none⟩) (m + 1) cap] 27)) 4 (.bool false); rwa [World.size_alloc] at this)
  refine wpIn_rangeFunc_ownG (F := Fence.wide) rfl (by omega) (gf := 93) (lb := #[.pointer (some ⟨w.heap.size + 2, 0, none⟩), .pointer (some ⟨w.heap.size + 3, 0, none⟩), .pointer (some ⟨w.heap.size + 4, 0, none⟩)]) rfl trivial (enters_of Tryz.func93 (by kernel_rfl) rfl)
    (places_stops 5 (by omega) w.heap.size s hs pr (8 * m) (by omega) (by omega) (by omega) (w.heap.size + 2) w1 x0 x1 x2) Kp2.trans (Kp2.put (by omega) (by omega)) (Below.refl _ _) (fun _ => rfl)
    (MyI w (some ⟨b, off, none⟩) (m + 1) cap bs) (MyX w bs) (myI_own _ _ _ _ _ (by omega)) (myX_own _ _ (by omega)) ⟨hb2, y0, y1, by simp [PlX.nums]⟩
    (fun x => { tmps := #[.slice (some ⟨b, off, none⟩) (m + 1) cap, .string s, .pointer (some ⟨w.heap.size, 0, none⟩), undef, .pointer (some ⟨w.heap.size + 1, 0, none⟩), .int .i64 (m : Int), .int .i64 (pr : Int), .int .u64 ((x.1 : Nat) : Int), .slice (some ⟨b, off, none⟩) (m + 1) cap, .int .i64 ((m : Int) + 1), .int .i64 (m : Int), .int .i64 (m : Int),
        .bool (decide ((m : Int) < 1)), .slice (some ⟨b, off, none⟩) (m + 1) cap, .int .i64 (m : Int), .pointer (some ⟨b, off + m, none⟩), .int .u8 (pr : Int), .int .i64 (pr : Int), .int .i64 (pr : Int), .bool (decide ((pr : Int) < 1)), .bool (decide ((pr : Int) < 1)), .int .i64 (pr : Int), .bool (decide (30 < (pr : Int))), .bool (decide ((pr : Int) < 1) || decide (30 < (pr : Int))), .string s, .int .i64 (pr : Int),
        .int .i64 (m : Int), .func (.func 93) #[] #[.pointer (some ⟨w.heap.size + 2, 0, none⟩), .pointer (some ⟨w.heap.size + 3, 0, none⟩), .pointer (some ⟨w.heap.size + 4, 0, none⟩)], .int .u64 ((x.1 : Nat) : Int), undef, undef, undef, undef, undef, undef, undef, undef, undef, undef], defers := [] }) ?assign ?body ?done ?stop
  case assign =>
    intro l x W K hK
    simp only [PlX.vals]
    gi_wp2
    exact hK
  case body =>
    rintro l pre ⟨p, hp⟩ W ⟨g1, g2, g3, g4⟩ _
    have hq : p / 8 < m := by omega
    have hcell : W.cell? ⟨b, off + p / 8, none⟩ = some (.int .u8 ((bs.getD (p / 8) 0).toNat : Int)) := by rw [g1.cell hbl]; exact HC.out _ (by omega)
    have hc8 : (bs.getD (p / 8) 0).toNat < 256 := UInt8.toNat_lt _
    have HBT : Hid (bitAt bs p = (bs.getD (p / 8) 0).toNat.testBit (p % 8)) := rfl
    generalize (bs.getD (p / 8) 0).toNat = c at *
    have z2 := g2.cell
    have z3 := g3.cell
    have zf := g3.frozen
    have hbit := and_bit c (p % 8) hc8 (Nat.mod_lt _ (by omega))
    rw [← HBT.out] at hbit
    cases ht : bitAt bs p with
    | true =>
      rw [ht, Bool.not_true] at hbit
      have HT : Hid (bitAt bs p = true) := ht
      clear ht HBT
      gi_wp2
      refine ⟨(KeepsOthers.refl _).from _, ⟨Below.refl _ _, rfl⟩, g1, g2, g3, fun q hqm => ?_⟩
      rw [nums_snoc] at hqm
      rcases List.mem_append.1 hqm with hqm | hqm
      · exact g4 q hqm
      · rw [List.mem_singleton.1 hqm]
        exact HT.out
    | false =>
      rw [ht, Bool.not_false] at hbit
      have HT : Hid (bitAt bs p = false) := ht
      clear ht HBT
      gi_wp2
      refine ⟨(KeepsOthers.setCell _ _ _).from _, rfl, g1.setCell (p := ⟨w.heap.size + 1, 0, none⟩) (by simp) _, g3.set _, p, ?_, HT.out⟩
      rw [nums_snoc]
      exact List.mem_append_right _ (List.mem_singleton.2 rfl)
  case done =>
    rintro D xs W hD hS ⟨g1, g2, g3, g4⟩ hK
    have HR : Hid (((plc s.data.toList (8 * m) pr).all fun p => bitAt bs p) = true) := by
      unfold Hid
      rw [← hS, List.all_eq_true]
      exact g4
    have z3 := g3.cell
    have zf := g3.frozen
    clear g4 hS
    gi_wp2
    have HK := (KeepsOthers.setCell W ⟨w.heap.size + 1, 0, none⟩ (.bool true)).same D _ hK rfl
    refine ⟨by simp, .inl ⟨_, _, rfl, run_takeDeferred HK, ?_⟩⟩
    have hx := boxed_ownF (B₀ := w.heap.size) (g3.set (.bool true)) (grownBy_putObj' _ D (.deferred none)) (fun r e => by cases e; exact ⟨by omega, _, HK, rfl⟩)
    have hc := hx.cell
    refine ⟨.bool true, ?_, by rw [HR.out], ?_⟩
    · simp [results, Tryz.results46, go_sem, hc]
    · exact (g1.setCell (p := ⟨w.heap.size + 1, 0, none⟩) (by simp) (.bool true)).trans (belowK_b (w := w) (Nat.le_refl _) _ D _ _ (by omega) HK rfl rfl)
  case stop =>
    rintro D c pre W hD ⟨t, hS⟩ ⟨rfl, g1, g3, p, hpm, hpf⟩ hK
    have HR : Hid (((plc s.data.toList (8 * m) pr).all fun p => bitAt bs p) = false) := by
      unfold Hid
      rw [← hS, List.all_eq_false]
      exact ⟨p, List.mem_append_left _ hpm, by rw [hpf]; simp⟩
    clear hS hpm hpf
    gi_wp2
    refine ⟨by simp, .inl ⟨_, _, rfl, run_takeDeferred hK, ?_⟩⟩
    have hx := boxed_ownF (B₀ := w.heap.size) g3 (grownBy_putObj' _ D (.deferred none)) (fun r e => by cases e; exact ⟨by omega, _, hK, rfl⟩)
    have hc := hx.cell
    refine ⟨.bool false, ?_, by rw [HR.out], ?_⟩
    · simp [results, Tryz.results46, go_sem, hc]
    · exact g1.trans (belowK_b (w := w) (Nat.le_refl _) _ D _ _ (by omega) hK rfl rfl)
set_option maxRecDepth 100000 in
set_option maxHeartbeats 400000 in
theorem may_short (a : Option Addr) (len cap : Nat) (s : ByteArray) (w : World) (hl : len < 2) :
    Calls Tryz.prog 46 #[.slice a len cap, .string s] w fun e w' => e = .returned (.bool true) ∧ Below w.heap.size w w' := by
  go_enter Tryz.func46, Tryz.ntmps46
  go_wp2
  exact bodyPost_ret (v := .bool true) (by simp [results, Tryz.results46, go_sem]) rfl ⟨rfl, ((Below.refl _ w).alloc (Nat.le_refl _) _).alloc (by simp) _⟩
set_option maxRecDepth 100000 in
set_option maxHeartbeats 400000 in
theorem may_odd (a : Option Addr) (m cap : Nat) (bs : List UInt8) (s : ByteArray) (w : World) (h : BsAt w a (m + 1) cap bs) (hl : m + 1 ≤ 140737488355328) (h1 : 1 ≤ m) (pr : Nat) (hpr : (bs.getD m 0).toNat = pr) (hp : pr < 1 ∨ 30 < pr) :
    Calls Tryz.prog 46 #[.slice a ((m + 1 : Nat)) cap, .string s] w fun e w' => e = .returned (.bool true) ∧ Below w.heap.size w w' := by
  obtain ⟨b, off, rfl, hc⟩ := h.here (by omega)
  have hlast := hc m (by omega)
  rw [hpr] at hlast
  have h256 : pr < 256 := by rw [← hpr]; exact UInt8.toNat_lt _
  have hbl : b < w.heap.size := World.block_lt_of_cell? w _ hlast
  have hbl1 : b < w.heap.size + 1 := by omega
  have hcap := h.le
  have hmax := h.max
  unfold maxLen at hmax
  clear h hc hpr
  have hB : Below w.heap.size w ((w.alloc (.cells #[.slice (some ⟨b, off, none⟩) (m + 1) cap] 27)).alloc (.cells #[.bool true] 4)) := ((Below.refl _ w).alloc (Nat.le_refl _) _).alloc (by simp) _
  by_cases h1 : pr < 1
  · clear hp
    go_enter Tryz.func46, Tryz.ntmps46
    go_wp2
    exact bodyPost_ret (v := .bool true) (by simp [results, Tryz.results46, go_sem]) rfl ⟨rfl, hB⟩
  · have h2 : 30 < pr := by omega
    clear hp
    go_enter Tryz.func46, Tryz.ntmps46
    go_wp2
    exact bodyPost_ret (v := .bool true) (by simp [results, Tryz.results46, go_sem]) rfl ⟨rfl, hB⟩

/-- Whether a key may be there. -/
theorem may_any (a : Option Addr) (len cap : Nat) (bs : List UInt8) (s : ByteArray) (w : World) (h : BsAt w a len cap bs) (hl : len ≤ 140737488355328) (hs : s.size ≤ 140737488351232) :
    Calls Tryz.prog 46 #[.slice a len cap, .string s] w fun e w' => e = .returned (.bool (mayN bs s.data.toList)) ∧ Below w.heap.size w w' := by
  have hz := h.size
  by_cases h2 : len < 2
  · have e : mayN bs s.data.toList = true := by unfold mayN; rw [decide_eq_true (by omega)]; simp
    rw [e]
    exact may_short a len cap s w h2
  · obtain ⟨m, rfl⟩ : ∃ m, len = m + 1 := ⟨len - 1, by omega⟩
    have e : mayN bs s.data.toList = (decide ((bs.getD m 0).toNat < 1) || decide (30 < (bs.getD m 0).toNat) || (plc s.data.toList (8 * m) (bs.getD m 0).toNat).all fun p => bitAt bs p) := by
      unfold mayN
      rw [hz, decide_eq_false (by omega), Bool.false_or, Nat.add_sub_cancel]
    rw [e]
    by_cases hp : (bs.getD m 0).toNat < 1 ∨ 30 < (bs.getD m 0).toNat
    · have e2 : (decide ((bs.getD m 0).toNat < 1) || decide (30 < (bs.getD m 0).toNat)) = true := by simpa using hp
      rw [e2, Bool.true_or]
      exact may_odd a m cap bs s w h hl (by omega) _ rfl hp
    · rw [decide_eq_false (by omega), decide_eq_false (by omega), Bool.false_or, Bool.false_or]
      exact may_range a m cap bs s w h hl hs (by omega) _ rfl (by omega) (by omega)
end Go.Proofs.YtgegjcnjlibfdaaGreat
/- The contracts of a table's Blocks and of what Get asks with. -/
namespace Go.Proofs.YtgegjcnjlibfdaaGreat
set_option maxRecDepth 100000
open Go.RowKit
set_option linter.unusedVariables false
set_option linter.unusedSimpArgs false
abbrev TPT : TypeId := 34
theorem idxD (W : World) {a : Option Addr} {b off n c i : Nat} (ha : a = some ⟨b, off, none⟩) (hi : i < n) : (Instr.indexAt 77 (.slice a n c) (.int .i64 (i : Int))).run Tryz.prog W = .ok (.pointer (some ⟨b, off + i * 4, none⟩)) W := by
  subst ha
  have h1 : (0 : Int) ≤ (i : Int) ∧ (i : Int) < (n : Int) := by omega
  have hsz : (sizeOf (Tryz.prog.elem 77)).run Tryz.prog W = .ok 4 W := by kernel_rfl
  rw [run_indexAt_slice (P := Tryz.prog) (h := (by kernel_rfl : Tryz.prog.underlying 77 = some (.slice (Tryz.prog.elem 77)))), if_pos h1, hsz]
  simp [Result.andThen, Addr.add_lit]
theorem OwnD.cells {w : World} {B : Nat} {a : Option Addr} {n c : Nat} {l : List SD} (h : OwnD w B a n c l) (hp : 0 < n) : ∃ g, a = some ⟨g, 0, none⟩ ∧ ∀ j, j < n * 4 → w.cell? ⟨g, j, none⟩ = (cellsD l)[j]? := by
  obtain ⟨g, hg⟩ := (row_addr h.row).2.2.2 hp
  subst hg
  refine ⟨g, rfl, fun j hj => ?_⟩
  rcases h.row.2 with ⟨hn, _⟩ | ⟨g2, c2, cur, hv, hb, hbk, h1, h2, h3, h4⟩
  · cases hn
  · cases hv
    rw [cell_of_row w g j cur _ _ hbk, ← Array.getElem?_toList, ← h4, List.getElem?_take]
    rw [if_pos hj]
theorem TbAt.slots {W : World} {B p : Nat} {T : TD} (h : TbAt W B p T) : ∃ (af ar : Option Addr) (cf cr : Nat), W.cell? ⟨p, 0, none⟩ = some (.slice af T.filter.length cf) ∧ W.cell? ⟨p, 1, none⟩ = some (.slice ar T.blocks.length cr) ∧ W.cell? ⟨p, 2, none⟩ = some (.int .u64 (T.told : Int)) ∧ BsAt W af T.filter.length cf T.filter ∧
    ∀ i (hi : i < T.blocks.length), ∃ (b : Nat) (ai : Option Addr) (n : Nat), ar = some ⟨b, 0, none⟩ ∧ W.cell? ⟨b, i * 4, none⟩ = some (.slice ai n n) ∧ W.cell? ⟨b, i * 4 + 1, none⟩ = some (.string T.blocks[i].2.user) ∧ W.cell? ⟨b, i * 4 + 2, none⟩ = some (.int .u64 (T.blocks[i].2.seq : Int)) ∧ W.cell? ⟨b, i * 4 + 3, none⟩ = some (.int .i64 T.blocks[i].2.kind) ∧ BsAt W ai n n T.blocks[i].1 ∧ 4 ≤ n ∧ n ≤ 3000000 := by
  obtain ⟨ab, af, ar, nb, cb, cf, cr, body, ds, h1, h2, h3, h4, h5, h6, h7⟩ := h.here
  refine ⟨af, ar, cf, cr, h1.cell 0, h1.cell 1, h1.cell 2, h2.bs, fun i hi => ?_⟩
  have hds : ds.length = T.blocks.length := h4.size
  have hid : i < ds.length := by omega
  obtain ⟨b, hb, hc⟩ := h4.cells (by omega)
  have hbk : T.blocks[i] = (ds[i].p, ds[i].k) := by
    have : (blsOf ds)[i]'(by rw [blsOf, List.length_map]; exact hid) = (ds[i].p, ds[i].k) := by simp [blsOf]
    rw [← this]
    congr 1
    exact h5.symm
  obtain ⟨hp4, hpt⟩ := h6 ds[i] (List.getElem_mem _)
  have hbs := hpt W h3.bs
  have hln : ds[i].p.length ≤ 3000000 := by
    have := h.parts T.blocks[i] (List.getElem_mem _)
    rw [hbk] at this
    exact this
  refine ⟨b, ds[i].a, ds[i].p.length, hb, ?_, ?_, ?_, ?_, ?_, hp4, by omega⟩
  · rw [hc (i * 4) (by omega)]
    have := cellsD_get ds i 0 hid (by omega)
    rw [Nat.add_zero] at this
    rw [this]
    rfl
  · rw [hc (i * 4 + 1) (by omega), cellsD_get ds i 1 hid (by omega), hbk]
    rfl
  · rw [hc (i * 4 + 2) (by omega), cellsD_get ds i 2 hid (by omega), hbk]
    rfl
  · rw [hc (i * 4 + 3) (by omega), cellsD_get ds i 3 hid (by omega), hbk]
    rfl
  · rw [hbk]
    exact hbs
set_option maxHeartbeats 1000000 in
theorem blocks_any {W : World} {B p : Nat} {T : TD} (h : TbAt W B p T) : Calls Tryz.prog 19 #[at_ p] W fun r w' => r = .returned (.int .i64 ((T.blocks.length : Nat) : Int)) ∧ W = w' := by
  obtain ⟨af, ar, cf, cr, c0, c1, c2, _, _⟩ := h.slots
  clear h
  go_enter Tryz.func19, Tryz.ntmps19
  go_wp2
  go_ret
  exact ⟨ret1 rfl, rfl⟩
set_option maxHeartbeats 1000000 in
theorem blocks_nil (W : World) : Calls Tryz.prog 19 #[.pointer none] W fun r w' => r = .returned (.int .i64 0) ∧ W = w' := by
  go_enter Tryz.func19, Tryz.ntmps19
  go_wp2
  go_ret
  exact ⟨ret1 rfl, rfl⟩
def naB (x : List UInt8 × IK) (k : IK) : Bool := decide (0 ≤ x.2.cmp k)
set_option maxHeartbeats 4000000 in
theorem getc_any {V : World} {B p : Nat} {T : TD} (h : TbAt V B p T) {tb kb : Nat} (ht : Box V tb TPT #[at_ p]) (k : IK) (hk : Box V kb TK (ikA k)) {i : Nat} (hi : i < T.blocks.length) :
    Calls Tryz.prog 48 #[.int .i64 (i : Int), at_ tb, at_ kb] V fun r w' => r = .returned (.bool (naB T.blocks[i] k)) ∧ Below V.heap.size V w' := by
  obtain ⟨af, ar, cf, cr, c0, c1, c2, _, hall⟩ := h.slots
  obtain ⟨b, ai, n, har, d0, d1, d2, d3, _, _, _⟩ := hall i hi
  have hix := fun W => idxD W (a := ar) (b := b) (off := 0) (n := T.blocks.length) (c := cr) har hi
  simp only [Nat.zero_add] at hix
  have HN : Hid (naB T.blocks[i] k = decide (0 ≤ T.blocks[i].2.cmp k)) := rfl
  have hcp := fun W => compare_any T.blocks[i].2.user k.user (T.blocks[i].2.seq : Int) (k.seq : Int) T.blocks[i].2.kind k.kind W
  change ∀ W, Calls Tryz.prog _ _ W (fun e w' => e = .returned (.int .i64 (T.blocks[i].2.cmp k)) ∧ Below W.heap.size W w') at hcp
  clear hall h
  generalize T.blocks[i] = z at *
  generalize z.2 = y at *
  rw [HN.out]
  generalize y.cmp k = cv at *
  generalize T.blocks.length = m at *
  have HK : Hid (∀ W : World, Below V.heap.size V W → W.cell? ⟨tb, 0, none⟩ = some (at_ p) ∧ W.cell? ⟨p, 1, none⟩ = some (.slice ar m cr) ∧ W.cell? ⟨b, i * 4 + 1, none⟩ = some (.string y.user) ∧ W.cell? ⟨b, i * 4 + 2, none⟩ = some (.int .u64 (y.seq : Int)) ∧ W.cell? ⟨b, i * 4 + 3, none⟩ = some (.int .i64 y.kind) ∧ W.cell? ⟨kb, 0, none⟩ = some (.string k.user) ∧ W.cell? ⟨kb, 1, none⟩ = some (.int .u64 (k.seq : Int)) ∧ W.cell? ⟨kb, 2, none⟩ = some (.int .i64 k.kind)) := by
    intro W hW
    have tr : ∀ {a : Addr} {v : Value}, V.cell? a = some v → W.cell? a = some v := fun {a v} hv => by rw [hW.cell (World.block_lt_of_cell? V _ hv)]; exact hv
    exact ⟨tr (ht.cell 0), tr c1, tr d1, tr d2, tr d3, tr (hk.cell 0), tr (hk.cell 1), tr (hk.cell 2)⟩
  have HCP : Hid (∀ W, Calls Tryz.prog 43 #[.agg #[.string y.user, .int .u64 (y.seq : Int), .int .i64 y.kind], .agg #[.string k.user, .int .u64 (k.seq : Int), .int .i64 k.kind]] W fun e w' => e = .returned (.int .i64 cv) ∧ Below W.heap.size W w') := hcp
  clear hcp c0 c2 c1 d0 d1 d2 d3 ht hk HN hi har
  obtain ⟨x0, x1, x2, x3, x4, x5, x6, x7⟩ := HK.out V.drew (Below.refl _ _).drew
  go_enter Tryz.func48, Tryz.ntmps48
  go_wp2_with fail
  go_region_held3 (fun W => W.cell? ⟨tb, 0, none⟩ = some (at_ p) ∧ W.cell? ⟨p, 1, none⟩ = some (.slice ar m cr) ∧ W.cell? ⟨b, i * 4 + 1, none⟩ = some (.string y.user) ∧ W.cell? ⟨b, i * 4 + 2, none⟩ = some (.int .u64 (y.seq : Int)) ∧ W.cell? ⟨b, i * 4 + 3, none⟩ = some (.int .i64 y.kind) ∧ W.cell? ⟨kb, 0, none⟩ = some (.string k.user) ∧ W.cell? ⟨kb, 1, none⟩ = some (.int .u64 (k.seq : Int)) ∧ W.cell? ⟨kb, 2, none⟩ = some (.int .i64 k.kind)) (first | with_reducible exact ⟨x0, x1, x2, x3, x4, x5, x6, x7⟩ | go_keep)
    (first
     | (go_at_call 43; refine (HCP.out _).mono ?_; rintro _ v1 ⟨rfl, hb1⟩
        have HB : Hid (Below V.heap.size V v1) := (Below.refl _ _).drew.trans hb1
        obtain ⟨x0, x1, x2, x3, x4, x5, x6, x7⟩ := HK.out v1 HB.out
        clear hb1))
  by_cases hcv : 0 ≤ cv
  · have HC : Hid (decide (0 ≤ cv) = true) := decide_eq_true hcv
    go_wp2
    go_ret
    exact ⟨ret1 (by rw [HC.out]; rfl), HB.out⟩
  · have HC : Hid (decide (0 ≤ cv) = false) := decide_eq_false hcv
    go_wp2
    go_ret
    exact ⟨ret1 (by rw [HC.out]; rfl), HB.out⟩
end Go.Proofs.YtgegjcnjlibfdaaGreat
