/- The contract of outcome. -/
import Derived.Test.YtehkcgjiimfdjabLone5
import Derived.Laws.OwnMore
import Derived.Deep.AppendLies
import Derived.Deep.RegionLaw
namespace Go.Proofs.Ytehkcgjiimfdjab
open Go.RowKit
theorem infoInt : (Try.prog.info? 3).map (fun i => (i.zero, i.size, i.bytes)) = some (some (.int .i64 0), 1, 8) := by kernel_rfl
abbrev zeros16 : Array Value := #[.int .i64 0, .int .i64 0, .int .i64 0, .int .i64 0, .int .i64 0, .int .i64 0, .int .i64 0, .int .i64 0, .int .i64 0, .int .i64 0, .int .i64 0, .int .i64 0, .int .i64 0, .int .i64 0, .int .i64 0, .int .i64 0]
theorem make_16 (W : World) : (Instr.makeSlice 22 (.int .i64 16) (.int .i64 16)).run Try.prog W = .ok (.slice (some ⟨W.heap.size, 0, none⟩) 16 16) (W.alloc (.cells zeros16 3)) := by
  obtain ⟨i, hi, hz0, hz1, hz2⟩ := info_parts infoInt
  have := run_make (P := Try.prog) W _ _ i (.int .i64 0) Try.underlying22 hi hz0 .i64 .i64 16 16 (by omega) (by omega) (by rw [hz2]; omega) (by omega)
  rw [this, hz1]
  have e : madeCells (Value.int .i64 0).cells (Int.toNat 16 * 1) = zeros16 := by
    apply Array.toList_inj.1
    rw [show Int.toNat 16 * 1 = 16 from rfl, show (Value.int .i64 0).cells = #[.int .i64 0] from rfl, toList_madeCells_one]
    rfl
  rw [e]
  rfl
theorem copy_out {w0 W : World} {p : Nat} {g : Bg} {B : PB} (h : BdAt w0 W p g B) (hk : B.Ok) {qc : Nat} (hq : Box W qc 3 zeros16) : ∃ W2, (Builtin.copy_ #[22, 22] 3 #[.slice (some ⟨qc, 0, none⟩) 16 16, .slice (some ⟨p, 0, none⟩) 16 16]).run Try.prog W = .ok (.int .i64 16) W2 ∧ Box W2 qc 3 (B.cells.map (Value.int .i64)).toArray ∧ Chg (fun k => k = qc) W W2 := by
  have hsrc : ∀ j v, (B.cells.map (Value.int .i64))[j]? = some v → W.cell? ((⟨p, 0, none⟩ : Addr).add j) = some v := by
    intro j v hv
    have hj : j < B.cells.length := by
      have := (List.getElem?_eq_some_iff.1 hv).1
      simpa using this
    rw [Addr.add_lit, Nat.zero_add, (h.bcell hk.cells hk.own).1 j (by rw [← hk.cells]; exact hj)]
    rw [List.getElem?_map, List.getElem?_eq_getElem hj] at hv
    simp [List.getD, hj]
    simpa using hv
  have hcl := hk.cells
  have := run_copy_row (P := Try.prog) W 22 22 3 3 qc 0 16 16 ⟨p, 0, none⟩ 16 16 zeros16 3 (B.cells.map (Value.int .i64)) Try.underlying22 infoInt1 hq (by rw [List.length_map, hcl]; rfl) hsrc (by rw [List.length_map, hcl]; show 0 + 16 ≤ 16; omega) (by intro v hv; obtain ⟨_, _, rfl⟩ := List.mem_map.1 hv; rfl)
  have eg : goInt (B.cells.map (Value.int .i64)).length = Value.int .i64 16 := by rw [List.length_map, hcl]; rfl
  rw [eg] at this
  refine ⟨_, this, ?_, ⟨rfl, rfl, rfl, by simp, fun k hk' hn => setRow_other _ _ _ _ hn⟩⟩
  refine Box.eq (setRow_heap W qc zeros16 _ 3 _ hq) ?_
  congr 1
  rw [List.take_zero, List.nil_append, Nat.zero_add, List.drop_eq_nil_of_le (by rw [List.length_map, hcl]; exact Nat.le_refl _), List.append_nil]
/-- What the walk of outcome holds. -/
structure OutAt (w0 w W : World) (p : Nat) (g : Bg) (B : PB) (qo qc : Nat) (cs : Array Value) (st : Value) (n : Nat) (l : List Value) : Prop where
  bd : BdAt w0 W p g B
  out : Box W qo 29 #[.slice (some ⟨qc, 0, none⟩) 16 16, .slice g.ea B.em.length g.ec, st, .int .i64 (B.steps : Int)]
  cells : Box W qc 3 cs
  states : W.ownsRow w.heap.size 3 1 st n l
  base : Below w.heap.size w W
  no : w.heap.size < qo
  res : Box W w.heap.size 29 #[.slice none 0 0, .slice none 0 0, .slice none 0 0, .int .i64 0]
  nc : w.heap.size ≤ qc
  ne : ∀ b, st.ownBlock = some b → b ≠ qc
theorem OutAt.below {w0 w W W' : World} {p : Nat} {g : Bg} {B : PB} {qo qc : Nat} {cs : Array Value} {st : Value} {n : Nat} {l : List Value} (h : OutAt w0 w W p g B qo qc cs st n l) (hb : Below W.heap.size W W') : OutAt w0 w W' p g B qo qc cs st n l :=
  ⟨h.bd.below hb, h.out.kept (hb.block _ h.out.lt), h.cells.kept (hb.block _ h.cells.lt), row_same h.states fun b e => hb.block b (h.states.lt b e).2, h.base.trans (hb.mono h.base.size), h.no, h.res.kept (hb.block _ h.res.lt), h.nc, h.ne⟩
theorem OutAt.push {w0 w W W' : World} {p : Nat} {g : Bg} {B : PB} {qo qc : Nat} {cs : Array Value} {sa : Option Addr} {n sc : Nat} {l : List Value} (h : OutAt w0 w W p g B qo qc cs (.slice sa n sc) n l) (hw : w0.heap.size ≤ w.heap.size) (hft : ∀ k, (k = p ∨ (∃ i, i < B.ts.length ∧ k = g.q i) ∨ blkOf g.ta = some k ∨ blkOf g.ea = some k) → k < w.heap.size) {x : Value} {r c : Nat}
    (hr : W'.ownsRow w.heap.size 3 1 (.slice (some ⟨r, 0, none⟩) (n + 1) c) (n + 1) (l ++ [x])) (hg : W.grownBy W' (Value.slice sa n sc).ownBlock) (hrn : (Value.slice sa n sc).ownBlock = some r ∨ W.heap.size ≤ r) :
    OutAt w0 w (W'.setCell ⟨qo, 2, none⟩ (.slice (some ⟨r, 0, none⟩) (n + 1) c)) p g B qo qc cs (.slice (some ⟨r, 0, none⟩) (n + 1) c) (n + 1) (l ++ [x]) := by
  have hlow : ∀ k, k < w.heap.size → W'.heap[k]? = W.heap[k]? := fun k hk => hg.block k (Nat.lt_of_lt_of_le hk h.base.size) (fun e => by have := (h.states.lt k e.symm).1; omega)
  have hrun : ∀ k, tag W k = some 29 → W'.heap[k]? = W.heap[k]? := fun k ht => hg.block k (tag_lt ht) (fun e => tag_ne ht (row_tag h.states e.symm) (by decide) rfl)
  have hro : r ≠ qo := by
    rcases hrn with e | e
    · exact tag_ne (row_tag h.states e) h.out.tag (by decide)
    · have := h.out.lt; omega
  have hno := h.no
  refine ⟨h.bd.same (fun k hk => ?_) ?_, ?_, ?_, ?_, ?_, h.no, ?_, h.nc, ?_⟩
  · have := hft k hk
    rw [Below.heap_setCell _ _ _ _ (by simp only; omega)]
    exact hlow k this
  · exact Below.setCell (h.bd.base.grown hg h.bd.base.size (fun k e => by have := (h.states.lt k e).1; omega)) (by simp only; omega) _
  · refine Box.eq ((h.out.kept (hrun _ h.out.tag)).set 2 _) ?_
    simp
  · refine (h.cells.kept (hg.block _ h.cells.lt (fun e => h.ne _ e.symm rfl))).other (tag_ne h.cells.tag h.out.tag (by decide)) _ _
  · exact row_same hr fun b e => Below.heap_setCell _ _ _ _ (by cases e; exact hro)
  · exact Below.setCell (h.base.grown hg h.base.size (fun k e => (h.states.lt k e).1)) (by simp only; omega) _
  · exact (h.res.kept (hrun _ h.res.tag)).other (by omega) _ _
  · intro b e
    obtain rfl : r = b := Option.some.inj e
    rcases hrn with e | e
    · exact h.ne _ e
    · have := h.cells.lt; omega
/-- A call of a Go function, as one step of a region that draws its order. -/
theorem step_calls {ops : Array Oper} {o : Oper} {a : Act} {w : World} {K : Act → World → Prop} {Q : Exit → Act → World → Prop} {E : Prop} (hgd : o.guard = none) {f : FuncId} {fn : Func} (hf : Try.prog.funcs[f]? = some fn) (hname : (fn.name == "runtime.NumGoroutine") = false) (hb : fn.body.isSome = true) {x y : Operand} {t u : TypeId}
    (ho : o.op = .call { callee := .value (.func f), args := #[x, y], argTypes := #[t, u] }) {va vb : Value} (hx : a.eval x = va) (hy : a.eval y = vb) {R : Value → World → Prop} (hc : Calls Try.prog f #[va, vb] w fun e w' => ∃ v, e = .returned v ∧ R v w')
    (hK : ∀ v w', R v w' → K (a.put o.dst v) w') : if Region.wanted o (yielded ops a.tmps) = true then Oper.wp Try.prog o a w K Q else E := by
  have hw : Region.wanted o (yielded ops a.tmps) = true := by simp [Region.wanted, hgd]
  rw [if_pos hw]
  unfold Oper.wp
  obtain ⟨dst, op, ty, pos, after, guard⟩ := o
  simp only at ho
  subst ho
  rw [execOp_call_go]
  have hargs : (#[] ++ #[x, y].map a.eval ++ #[] : Array Value) = #[va, vb] := by simp [hx, hy]
  rw [hargs]
  obtain ⟨c, hc'⟩ := Option.isSome_iff_exists.1 hb
  have hname' : fn.name ≠ "runtime.NumGoroutine" := by simpa using hname
  have hrun : (callFunc f #[va, vb]).run Try.prog w = .ok (.enter f #[va, vb]) w := by
    simp [callFunc, hf, hname', hc']
  rw [hrun, Oper.upon_enter]
  refine hc.mono ?_
  rintro e w' ⟨v, rfl, hr⟩
  exact hK v w' hr
set_option maxRecDepth 100000 in
set_option maxHeartbeats 1000000 in
theorem outcome_at {w0 w : World} {p : Nat} {g : Bg} {B : PB} (h : BdAt w0 w p g B) (hk : B.Ok) : Calls Try.prog 10 #[at_ p] w fun e w' => ∃ qc sa sc, e = .returned (.agg #[.slice (some ⟨qc, 0, none⟩) 16 16, .slice g.ea B.em.length g.ec, .slice sa B.ts.length sc, .int .i64 (B.steps : Int)]) ∧ Box w' qc 3 (B.cells.map (Value.int .i64)).toArray ∧ w'.ownsRow w0.heap.size 3 1 (.slice sa B.ts.length sc) B.ts.length (B.states.map (Value.int .i64)) ∧ w'.ownsRow w0.heap.size 35 2 (.slice g.ea B.em.length g.ec) B.em.length (cellsE B.em) ∧ Below w0.heap.size w0 w' := by
  obtain ⟨b0, b1, b2, b3, b4⟩ := h.bcell hk.cells hk.own
  clear b0 b1
  obtain ⟨n, HN⟩ : ∃ n, Hid (n = B.ts.length) := ⟨_, rfl⟩
  rw [← HN.out]
  have hplt := tag_lt h.tagP
  have hmake := make_16
  obtain ⟨j0, hj0, hz0, hz1, hz2⟩ := info_parts infoInt
  have hp1 : p < w.heap.size + 1 := by omega
  have hp2 : p < w.heap.size + 1 + 1 := by omega
  have hp3 : p < w.heap.size + 1 + 1 + 1 := by omega
  have HA : Hid (∀ (_ : Value), OutAt w0 w (((w.alloc (.cells #[.slice none 0 0, .slice none 0 0, .slice none 0 0, .int .i64 0] 29)).alloc (.cells #[.slice (some ⟨w.heap.size + 1 + 1, 0, none⟩) 16 16, .slice g.ea B.em.length g.ec, .slice none 0 0, .int .i64 (B.steps : Int)] 29)).alloc (.cells zeros16 3)).drew p g B (w.heap.size + 1) (w.heap.size + 1 + 1) zeros16 (.slice none 0 0) 0 []) := by
    intro sl
    have x0 := Box.new w 29 #[.slice none 0 0, .slice none 0 0, .slice none 0 0, .int .i64 0]
    have e1 : (w.alloc (.cells #[.slice none 0 0, .slice none 0 0, .slice none 0 0, .int .i64 0] 29)).heap.size = w.heap.size + 1 := by simp
    have x1 := Box.new (w.alloc (.cells #[.slice none 0 0, .slice none 0 0, .slice none 0 0, .int .i64 0] 29)) 29 #[.slice (some ⟨w.heap.size + 1 + 1, 0, none⟩) 16 16, .slice g.ea B.em.length g.ec, .slice none 0 0, .int .i64 (B.steps : Int)]
    have x2 := Box.new ((w.alloc (.cells #[.slice none 0 0, .slice none 0 0, .slice none 0 0, .int .i64 0] 29)).alloc (.cells #[.slice (some ⟨w.heap.size + 1 + 1, 0, none⟩) 16 16, .slice g.ea B.em.length g.ec, .slice none 0 0, .int .i64 (B.steps : Int)] 29)) 3 zeros16
    rw [e1] at x1
    rw [show ((w.alloc (.cells #[.slice none 0 0, .slice none 0 0, .slice none 0 0, .int .i64 0] 29)).alloc (.cells #[.slice (some ⟨w.heap.size + 1 + 1, 0, none⟩) 16 16, .slice g.ea B.em.length g.ec, .slice none 0 0, .int .i64 (B.steps : Int)] 29)).heap.size = w.heap.size + 1 + 1 by simp] at x2
    exact ⟨(((h.alloc _).alloc _).alloc _).drew, x1.alloc _, x2, World.ownsRow_nil _ _ _ 1, ((((Below.refl _ _).alloc (Nat.le_refl _) _).alloc (by simp) _).alloc (by simp; omega) _).drew, by omega, (x0.alloc _).alloc _, by omega, fun b e => by cases e⟩
  have HZ : Hid (∀ (_ : Value), OutAt w0 w (((w.alloc (.cells #[.slice none 0 0, .slice none 0 0, .slice none 0 0, .int .i64 0] 29)).alloc (.cells zeros16 3)).alloc (.cells #[.slice (some ⟨w.heap.size + 1, 0, none⟩) 16 16, .slice g.ea B.em.length g.ec, .slice none 0 0, .int .i64 (B.steps : Int)] 29)).drew p g B (w.heap.size + 1 + 1) (w.heap.size + 1) zeros16 (.slice none 0 0) 0 []) := by
    intro sl
    have x0 := Box.new w 29 #[.slice none 0 0, .slice none 0 0, .slice none 0 0, .int .i64 0]
    have e1 : (w.alloc (.cells #[.slice none 0 0, .slice none 0 0, .slice none 0 0, .int .i64 0] 29)).heap.size = w.heap.size + 1 := by simp
    have x1 := Box.new (w.alloc (.cells #[.slice none 0 0, .slice none 0 0, .slice none 0 0, .int .i64 0] 29)) 3 zeros16
    have x2 := Box.new ((w.alloc (.cells #[.slice none 0 0, .slice none 0 0, .slice none 0 0, .int .i64 0] 29)).alloc (.cells zeros16 3)) 29 #[.slice (some ⟨w.heap.size + 1, 0, none⟩) 16 16, .slice g.ea B.em.length g.ec, .slice none 0 0, .int .i64 (B.steps : Int)]
    rw [e1] at x1
    rw [show ((w.alloc (.cells #[.slice none 0 0, .slice none 0 0, .slice none 0 0, .int .i64 0] 29)).alloc (.cells zeros16 3)).heap.size = w.heap.size + 1 + 1 by simp] at x2
    exact ⟨(((h.alloc _).alloc _).alloc _).drew, x2, x1.alloc _, World.ownsRow_nil _ _ _ 1, ((((Below.refl _ _).alloc (Nat.le_refl _) _).alloc (by simp) _).alloc (by simp; omega) _).drew, by omega, (x0.alloc _).alloc _, by omega, fun b e => by cases e⟩
  go_enter Try.func10, Try.ntmps10
  go_wp2_with fail
  go_region
  case' _ =>
    have HO := HZ.out (.slice none 0 0)
    clear HA HZ hp1 hp2 hp3 hmake b2 b3 b4
    generalize (((w.alloc (.cells #[.slice none 0 0, .slice none 0 0, .slice none 0 0, .int .i64 0] 29)).alloc (.cells zeros16 3)).alloc (.cells #[.slice (some ⟨w.heap.size + 1, 0, none⟩) 16 16, .slice g.ea B.em.length g.ec, .slice none 0 0, .int .i64 (B.steps : Int)] 29)).drew = W at HO ⊢
    generalize w.heap.size + 1 + 1 = qo at HO ⊢
    generalize w.heap.size + 1 = qc at HO ⊢
  rotate_left
  case' _ =>
    have HO := HA.out (.slice none 0 0)
    clear HA HZ hp1 hp2 hp3 hmake b2 b3 b4
    generalize (((w.alloc (.cells #[.slice none 0 0, .slice none 0 0, .slice none 0 0, .int .i64 0] 29)).alloc (.cells #[.slice (some ⟨w.heap.size + 1 + 1, 0, none⟩) 16 16, .slice g.ea B.em.length g.ec, .slice none 0 0, .int .i64 (B.steps : Int)] 29)).alloc (.cells zeros16 3)).drew = W at HO ⊢
    generalize w.heap.size + 1 + 1 = qc at HO ⊢
    generalize w.heap.size + 1 = qo at HO ⊢
  all_goals
    obtain ⟨W2, hcopy, hc2, hch2⟩ := copy_out HO.bd.drew hk (qc := qc) HO.cells
    have HFT : Hid (∀ k, (k = p ∨ (∃ i, i < B.ts.length ∧ k = g.q i) ∨ blkOf g.ta = some k ∨ blkOf g.ea = some k) → k < w.heap.size) := fun k hk' => h.foot_lt hk'
    have HB0 : Hid (w0.heap.size ≤ w.heap.size) := h.base.size
    have o0 := HO.out.cell 0
    have o2 := HO.out.cell 2
    simp at o0 o2
    have HO1 : Hid (OutAt w0 w W2 p g B qo qc (B.cells.map (Value.int .i64)).toArray (.slice none 0 0) 0 []) := by
      have htq := HO.cells.tag
      refine ⟨HO.bd.same (fun k hk' => hch2.block k (HO.bd.foot_lt hk') (fun e => ?_)) (HO.bd.base.drew.trans (hch2.below (B := w0.heap.size) (fun k e => ?_) HO.bd.base.size)), HO.out.kept (hch2.block _ HO.out.lt (tag_ne HO.out.tag htq (by decide))), hc2, World.ownsRow_nil _ _ _ 1, HO.base.drew.trans (hch2.below (B := w.heap.size) (fun k e => by rw [e]; exact HO.nc) HO.base.size), HO.no, HO.res.kept (hch2.block _ HO.res.lt (tag_ne HO.res.tag htq (by decide))), HO.nc, fun b e => by cases e⟩
      · subst e
        rcases hk' with e | ⟨i, hi, e⟩ | e | e
        · exact tag_ne htq HO.bd.tagP (by decide) e
        · exact tag_ne htq (HO.bd.tagQ hi) (by decide) e
        · exact tag_ne htq (HO.bd.tagR e) (by decide) rfl
        · exact tag_ne htq (HO.bd.tagE e) (by decide) rfl
      · have h8 := HO.nc
        have h9 := h.base.size
        rw [e]
        omega
    clear hc2 hch2 HO
    have hn8 : n ≤ 8 := by rw [HN.out]; exact hk.many
    have b32 : W2.cell? ⟨p, 32, none⟩ = some (.slice g.ta n g.tc) := by rw [HN.out]; exact (HO1.out.bd.bcell hk.cells hk.own).2.2.1
    go_wp2_with fail
    go_region
    go_wp2_with fail
    go_loopw [28] (fun i wr => ∃ (k : Nat) (sa : Option Addr) (sc : Nat), k ≤ n ∧ i = .int .i64 (k : Int) ∧ Hid (OutAt w0 w wr p g B qo qc (B.cells.map (Value.int .i64)).toArray (.slice sa k sc) k ((B.states.take k).map (Value.int .i64)))) (fun i _ => n - (intOf i).toNat)
    case atStart => exact ⟨0, none, 0, Nat.zero_le _, rfl, HO1⟩
    case round =>
      obtain ⟨k, sa, sc, hkn, rfl, HW⟩ := hrel
      clear HO1 hcopy
      by_cases hlt : k < n
      · have hlt' : k < B.ts.length := by rw [← HN.out]; exact hlt
        obtain ⟨rt, hra, rk, hle, hmx, hrlt⟩ := HW.out.bd.rowAt (k := k) hlt'
        rw [← HN.out] at hle
        unfold maxLen at hmx
        rw [hra]
        have hx1 : (0 : Int) ≤ (k : Int) := by omega
        have hx2 : (k : Int) < (n : Int) := by omega
        have HST : Hid (Calls Try.prog 16 #[at_ p, at_ (g.q k)] wr fun e w' => e = .returned (.int .i64 (B.state (B.t k))) ∧ Below wr.heap.size wr w') := state_at HW.out.bd hk hlt'
        have o2 := HW.out.out.cell 2
        simp at o2
        obtain ⟨st, HSTT⟩ : ∃ st, Hid (st = B.state (B.t k)) := ⟨_, rfl⟩
        have HST2 : Hid (Calls Try.prog 16 #[at_ p, at_ (g.q k)] wr.drew fun e w' => ∃ v, e = .returned v ∧ (v = .int .i64 st ∧ Below wr.heap.size wr w')) := by
          unfold Hid
          rw [HSTT.out]
          refine (state_at HW.out.bd.drew hk hlt').mono ?_
          rintro e w' ⟨h1, h2⟩
          exact ⟨_, h1, rfl, (Below.refl _ _).drew.trans h2⟩
        clear HST
        go_wp2_with fail
        go_region_law (first
            | (refine step_calls rfl Try.func16 (by kernel_rfl) (by kernel_rfl) rfl (va := at_ p) (vb := at_ (g.q k)) (by simp [Act.eval, Act.put]) (by simp [Act.eval, Act.put]) HST2.out ?_
               rintro v vx ⟨rfl, hb⟩
               have HW2 : Hid (OutAt w0 w vx p g B qo qc (B.cells.map (Value.int .i64)).toArray (.slice sa k sc) k ((B.states.take k).map (Value.int .i64))) := HW.out.below hb
               have o2 := HW2.out.out.cell 2
               simp at o2
               have HW3 : Hid (OutAt w0 w (vx.alloc (.cells #[.int .i64 st] 3)) p g B qo qc (B.cells.map (Value.int .i64)).toArray (.slice sa k sc) k ((B.states.take k).map (Value.int .i64))) := HW2.out.below ((Below.refl _ _).alloc (Nat.le_refl _) _)
               have HNW : Hid (∀ j u, [Value.int .i64 st][j]? = some u → (vx.alloc (.cells #[.int .i64 st] 3)).cell? ((⟨vx.heap.size, 0, none⟩ : Addr).add j) = some u) := World.news_of_block (cs := #[.int .i64 st]) (Box.new vx 3 #[.int .i64 st])
               have hqlt := HW2.out.out.lt
               clear hb)
            | (refine step_append_lies _ rfl (.tmp 33) (.tmp 37) 22 rfl w.heap.size 3 j0 _ 1 8 Try.underlying22 hj0 hz0 hz1 hz2 rfl (by decide) _ _ _ (by simp [Act.eval]) HW3.out.states ⟨vx.heap.size, 0, none⟩ 1 1 [.int .i64 st] (by simp [Act.eval]) rfl HNW.out (by intro u hu; rw [List.mem_singleton.1 hu]; rfl) (by omega) (by unfold maxLen; omega) (by omega) HW3.out.base.size _ rfl ?_
               intro r4 c4 w4 hr4 hg4 hl4 hlt4
               have HW5 : Hid (OutAt w0 w (w4.setCell ⟨qo, 2, none⟩ (.slice (some ⟨r4, 0, none⟩) (k + 1) c4)) p g B qo qc (B.cells.map (Value.int .i64)).toArray (.slice (some ⟨r4, 0, none⟩) (k + 1) c4) (k + 1) ((B.states.take k).map (Value.int .i64) ++ [.int .i64 st])) := HW3.out.push HB0.out HFT.out hr4 hg4 (hl4.imp id (fun e => Nat.le_of_eq e.symm))
               have hqo4 : w4.heap[qo]? = (vx.alloc (.cells #[.int .i64 st] 3)).heap[qo]? := hg4.block _ HW3.out.out.lt (fun e => tag_ne HW3.out.out.tag (row_tag HW3.out.states e.symm) (by decide) rfl)
               have HBQ := HW3.out.out.kept hqo4
               have o2 := HBQ.cell 2
               simp at o2
               have f2 := HBQ.soft 2
               clear hr4 hg4 hl4 hlt4 hqo4 HBQ))
        all_goals
          go_wp2_with fail
          go_roundw
          case rel =>
            refine ⟨k + 1, some ⟨r4, 0, none⟩, c4, by omega, by go_num, ?_⟩
            have h9 := HW5.out
            have e : (B.states.take k).map (Value.int .i64) ++ [.int .i64 st] = (B.states.take (k + 1)).map (Value.int .i64) := by
              have hl9 : k < B.states.length := by simp [PB.states]; exact hlt'
              rw [List.take_add_one, List.getElem?_eq_getElem hl9, List.map_append, HSTT.out]
              simp [PB.states, PB.t, List.getD, hlt']
            rw [e] at h9
            exact h9
          case measure => simp [intOf]; omega
      · obtain rfl : k = n := by omega
        have HO9 := HW.out.out
        have y0 := HO9.cell 0
        have y1 := HO9.cell 1
        have y2 := HO9.cell 2
        have y3 := HO9.cell 3
        simp at y0 y1 y2 y3
        have z0 := HW.out.res.cell 0
        have z1 := HW.out.res.cell 1
        have z2 := HW.out.res.cell 2
        have z3 := HW.out.res.cell 3
        simp at z0 z1 z2 z3
        have t0 := HW.out.res.soft 0
        have t1 := HW.out.res.soft 1
        have t2 := HW.out.res.soft 2
        have t3 := HW.out.res.soft 3
        go_wp2
        refine bodyPost_ret (v := .agg #[.slice (some ⟨qc, 0, none⟩) 16 16, .slice g.ea B.em.length g.ec, .slice sa k sc, .int .i64 (B.steps : Int)]) (by simp [results, Try.results10, go_sem, *]) rfl ?_
        have hW := HW.out
        have e : B.states.take k = B.states := by rw [HN.out, List.take_of_length_le (by simp [PB.states])]
        have hlow : ∀ b, b ≠ w.heap.size → ((((wr.setCell ⟨w.heap.size, 0, none⟩ (.slice (some ⟨qc, 0, none⟩) 16 16)).setCell ⟨w.heap.size, 1, none⟩ (.slice g.ea B.em.length g.ec)).setCell ⟨w.heap.size, 2, none⟩ (.slice sa k sc)).setCell ⟨w.heap.size, 3, none⟩ (.int .i64 (B.steps : Int))).heap[b]? = wr.heap[b]? := fun b hb => by
          rw [Below.heap_setCell _ _ _ _ hb, Below.heap_setCell _ _ _ _ hb, Below.heap_setCell _ _ _ _ hb, Below.heap_setCell _ _ _ _ hb]
        refine ⟨qc, sa, sc, rfl, hW.cells.kept (hlow qc (tag_ne hW.cells.tag hW.res.tag (by decide))), ?_, row_same hW.bd.emits fun b e' => hlow b (tag_ne (hW.bd.tagE (by rw [← own_blk]; exact e')) hW.res.tag (by decide)), Below.setCell (Below.setCell (Below.setCell (Below.setCell hW.bd.base HB0.out _) HB0.out _) HB0.out _) HB0.out _⟩
        have hst := hW.states
        rw [e] at hst
        refine row_same ⟨hst.1, ?_⟩ fun b e' => hlow b (tag_ne (row_tag hst e') hW.res.tag (by decide))
        rcases hst.2 with hn | ⟨b, c, cur, hv, hB, hg, rest⟩
        · exact .inl hn
        · exact .inr ⟨b, c, cur, hv, Nat.le_trans HB0.out hB, hg, rest⟩
end Go.Proofs.Ytehkcgjiimfdjab
