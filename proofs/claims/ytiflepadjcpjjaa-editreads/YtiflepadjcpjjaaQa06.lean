/- Where edit's taken is: its answer's variable, the taker, the edit that is read, and its rows. -/
import Derived.Test.YtiflepadjcpjjaaE13Take
import Derived.Maps.AppendAt
import Derived.Test.YtiflepadjcpjjaaQa03
namespace Go.Proofs.Ytiflepadjcpjjaa
open Go.RowKit
set_option linter.unusedVariables false
set_option linter.unusedSimpArgs false
/-- An element appended, as a step of a region that draws its order. -/
theorem step_pushV {ops : Array Oper} {o : Oper} {a : Act} {K : Act → World → Prop} {Q : Exit → Act → World → Prop} {E : Prop} (W : World) (hgd : o.guard = none) (s x : Operand) (t e : TypeId)
    (ho : o.op = .call { callee := .builtin .append, args := #[s, x], argTypes := #[t, t] }) (ht : Try.prog.underlying t = some (.slice e)) (z : Value) (size bytes : Nat) (hinfo : (Try.prog.info? e).map (fun i => (i.zero, i.size, i.bytes)) = some (some z, size, bytes)) (hzs : z.cells.size = size) (hsz : 0 < size)
    (B : Nat) (a1 : Option Addr) (n1 c1 : Nat) (xs : List Value) (hs : a.eval s = .slice a1 n1 c1) (hown : W.ownsRow B e size (.slice a1 n1 c1) n1 xs)
    (cv : Array Value) (hcv : cv.size = size) (h1 : ∀ u ∈ cv.toList, u.oneCell' = true) (g : Nat) (hg : g = W.heap.size) (hx : a.eval x = .slice (some ⟨g, 0, none⟩) 1 1)
    (hm : n1 + 1 ≤ maxLen) (hb : (n1 + 1) * bytes ≤ 140737488355328) (hB : B ≤ W.heap.size)
    (h : ∀ a' c' w', w'.ownsRow B e size (.slice a' (n1 + 1) c') (n1 + 1) (xs ++ cv.toList) → Below B W w' → (W.alloc (.cells cv e)).grownBy w' (blkOf a1) → K (a.put o.dst (.slice a' (n1 + 1) c')) w') :
    if Region.wanted o (yielded ops a.tmps) = true then Oper.wp Try.prog o a (W.alloc (.cells cv e)) K Q else E := by
  subst hg
  have hw : Region.wanted o (yielded ops a.tmps) = true := by simp [Region.wanted, hgd]
  rw [if_pos hw]
  obtain ⟨i, hi, hz0, hz1, hz2⟩ := info_parts hinfo
  have hown2 := hown.alloc (.cells cv e)
  have hlt : ∀ k, (Value.slice a1 n1 c1).ownBlock = some k → B ≤ k := fun k hk => (hown.lt k hk).1
  have hB2 : B ≤ (W.alloc (.cells cv e)).heap.size := by simp; omega
  have hcell : ∀ j u, cv.toList[j]? = some u → (W.alloc (.cells cv e)).cell? ((⟨W.heap.size, 0, none⟩ : Addr).add j) = some u := by
    intro j u hu
    rw [Addr.add_lit, Nat.zero_add, (Box.new W e cv).cell, ← Array.getElem?_toList]
    exact hu
  obtain ⟨v', w', hr, h2, h3, h4, h5⟩ := run_append_own_at (P := Try.prog) (W.alloc (.cells cv e)) B t o.type e i z size bytes ht hi hz0 hz1 hz2 hzs hsz _ n1 _ hown2 ⟨W.heap.size, 0, none⟩ 1 1 cv.toList (by simp [hcv]) hcell h1 hm hb hB2
  unfold Oper.wp execOp
  simp only [ho, resolve, invoke, builtin, Sem.run_bind, Sem.run_pure, Result.andThen_ok, List.map_toArray, List.map_cons, List.map_nil, hs, hx, hr]
  obtain ⟨a', c', rfl⟩ := slice_of_row h2
  exact h a' c' w' h2 (((Below.refl _ _).alloc hB _).trans ((Below.refl B _).grown h3 hB2 hlt)) (by rw [← own_blk a1 n1 c1]; exact h3)
theorem step_pushG {ops : Array Oper} {o : Oper} {a : Act} {K : Act → World → Prop} {Q : Exit → Act → World → Prop} {E : Prop} (W : World) (hgd : o.guard = none) (s x : Operand)
    (ho : o.op = .call { callee := .builtin .append, args := #[s, x], argTypes := #[24, 24] })
    (B : Nat) (a1 : Option Addr) (n1 c1 : Nat) (l : List PG) (hs : a.eval s = .slice a1 n1 c1) (hown : OwnG W B a1 n1 c1 l) (v : PG) (g : Nat) (hg : g = W.heap.size) (hx : a.eval x = .slice (some ⟨g, 0, none⟩) 1 1)
    (hb : n1 + 1 ≤ 1000000) (hB : B ≤ W.heap.size)
    (h : ∀ a' c' w', OwnG w' B a' (n1 + 1) c' (l ++ [v]) → Below B W w' → (W.alloc (.cells (gA v) TG)).grownBy w' (blkOf a1) → K (a.put o.dst (.slice a' (n1 + 1) c')) w') :
    if Region.wanted o (yielded ops a.tmps) = true then Oper.wp Try.prog o a (W.alloc (.cells (gA v) TG)) K Q else E := by
  refine step_pushV W hgd s x _ TG ho Try.underlying24 _ 2 16 infoG rfl (by decide) B a1 n1 c1 _ hs hown.row (gA v) rfl (by have := gc_one [v]; simpa [gA, gc] using this) g hg hx (by unfold maxLen; omega) (by omega) hB (fun a' c' w' hr hb hg => h a' c' w' ⟨by rw [List.length_append, hown.size]; rfl, ?_⟩ hb hg)
  rw [List.flatMap_append]
  simpa [gA, gc] using hr
theorem step_pushF {ops : Array Oper} {o : Oper} {a : Act} {K : Act → World → Prop} {Q : Exit → Act → World → Prop} {E : Prop} (W : World) (hgd : o.guard = none) (s x : Operand)
    (ho : o.op = .call { callee := .builtin .append, args := #[s, x], argTypes := #[25, 25] })
    (B : Nat) (a1 : Option Addr) (n1 c1 : Nat) (l : List PF) (hs : a.eval s = .slice a1 n1 c1) (hown : OwnF W B a1 n1 c1 l) (v : PF) (g : Nat) (hg : g = W.heap.size) (hx : a.eval x = .slice (some ⟨g, 0, none⟩) 1 1)
    (hb : n1 + 1 ≤ 1000000) (hB : B ≤ W.heap.size)
    (h : ∀ a' c' w', OwnF w' B a' (n1 + 1) c' (l ++ [v]) → Below B W w' → (W.alloc (.cells (fA v) TF)).grownBy w' (blkOf a1) → K (a.put o.dst (.slice a' (n1 + 1) c')) w') :
    if Region.wanted o (yielded ops a.tmps) = true then Oper.wp Try.prog o a (W.alloc (.cells (fA v) TF)) K Q else E := by
  refine step_pushV W hgd s x _ TF ho Try.underlying25 _ 9 88 infoF rfl (by decide) B a1 n1 c1 _ hs hown.row (fA v) rfl (by have := fc_one [v]; simpa [fA, fc] using this) g hg hx (by unfold maxLen; omega) (by omega) hB (fun a' c' w' hr hb hg => h a' c' w' ⟨by rw [List.length_append, hown.size]; rfl, ?_⟩ hb hg)
  rw [List.flatMap_append]
  simpa [fA, fc] using hr
structure TkS (w W : World) (b : List UInt8) (x : PE) (s : SE) : Prop where
  tk : Tk w W (w.heap.size + 1) b
  res : Box W w.heap.size TE (eA ez sz0)
  var : Box W (w.heap.size + 2) TE (eA x s)
  gs : OwnG W (w.heap.size + 3) s.a x.dels.length s.c x.dels
  fs : OwnF W (w.heap.size + 3) s.a' x.adds.length s.c' x.adds
theorem TkS.base {w W : World} {b : List UInt8} {x : PE} {s : SE} (h : TkS w W b x s) : Below w.heap.size w W := h.tk.base
theorem TkS.big {w W : World} {b : List UInt8} {x : PE} {s : SE} (h : TkS w W b x s) : w.heap.size + 3 ≤ W.heap.size := h.var.lt
theorem TkS.turn {w W W' : World} {b b' : List UInt8} {x : PE} {s : SE} (h : TkS w W b x s) (hc : Chg (· = w.heap.size + 1) W W') (ht : Tk w W' (w.heap.size + 1) b') : TkS w W' b' x s :=
  ⟨ht, h.res.kept (hc.block _ h.res.lt (by omega)), h.var.kept (hc.block _ h.var.lt (by omega)),
    h.gs.kept fun k e => hc.block _ (tag_lt (h.gs.tag e)) (by have := h.gs.ge e; omega), h.fs.kept fun k e => hc.block _ (tag_lt (h.fs.tag e)) (by have := h.fs.ge e; omega)⟩
theorem TkS.call {w W W' : World} {b : List UInt8} {x : PE} {s : SE} (h : TkS w W b x s) (hb : Below W.heap.size W W') : TkS w W' b x s :=
  ⟨h.tk.call hb, h.res.kept (hb.block _ h.res.lt), h.var.kept (hb.block _ h.var.lt), h.gs.below hb, h.fs.below hb⟩
theorem TkS.drew {w W : World} {b : List UInt8} {x : PE} {s : SE} (h : TkS w W b x s) : TkS w W.drew b x s := h.call (Below.refl _ _).drew
theorem TkS.alloc {w W : World} {b : List UInt8} {x : PE} {s : SE} (h : TkS w W b x s) (o : Obj) : TkS w (W.alloc o) b x s := h.call ((Below.refl _ _).alloc (Nat.le_refl _) _)
theorem TkS.die {w W W' : World} {b : List UInt8} {x : PE} {s : SE} (h : TkS w W b x s) (hc : Chg (· = w.heap.size + 1) W W') : Below w.heap.size w W' := h.tk.stepB hc
def PE.addG (x : PE) (g : PG) : PE := ⟨x.log, x.next, x.last, x.dels ++ [g], x.adds⟩
def PE.addF (x : PE) (f : PF) : PE := ⟨x.log, x.next, x.last, x.dels, x.adds ++ [f]⟩
theorem TkS.pushG {w W w' : World} {b : List UInt8} {x : PE} {s : SE} (h : TkS w W b x s) {g : PG} {a' : Option Addr} {c' : Nat} (ho : OwnG w' (w.heap.size + 3) a' (x.dels.length + 1) c' (x.dels ++ [g])) (hb : Below (w.heap.size + 3) W w') (O : Obj) (hg : (W.alloc O).grownBy w' (blkOf s.a)) :
    TkS w (w'.setCell ⟨w.heap.size + 2, 3, none⟩ (.slice a' (x.dels.length + 1) c')) b (x.addG g) ⟨a', c', s.a', s.c'⟩ := by
  have hbig := h.big
  refine ⟨h.tk.same ?_ ((h.base.trans (hb.mono (by omega))).setCell (by simp) _), ?_, ?_, ?_, ?_⟩
  · rw [Below.heap_setCell _ _ _ _ (by show w.heap.size + 1 ≠ w.heap.size + 2; omega)]
    exact hb.block _ (by omega)
  · exact (h.res.kept (hb.block _ (by omega))).other (by omega) _ _
  · have := (h.var.kept (hb.block _ (by omega))).set 3 (.slice a' (x.dels.length + 1) c')
    refine this.eq ?_
    simp [eA, PE.addG]
  · have := ho.kept (w' := w'.setCell ⟨w.heap.size + 2, 3, none⟩ (.slice a' (x.dels.length + 1) c')) fun k e => Below.heap_setCell _ _ _ _ (by have := ho.ge e; show k ≠ w.heap.size + 2; omega)
    simpa [PE.addG] using this
  · refine h.fs.kept fun k e => ?_
    rw [Below.heap_setCell _ _ _ _ (by have := h.fs.ge e; show k ≠ w.heap.size + 2; omega)]
    rw [(Chg.grown hg).block k (by have := tag_lt (h.fs.tag e); simp; omega) (fun e' => tag_ne (h.gs.tag e') (h.fs.tag e) (by decide) rfl)]
    exact Below.heap_alloc _ _ _ (tag_lt (h.fs.tag e))
theorem TkS.pushF {w W w' : World} {b : List UInt8} {x : PE} {s : SE} (h : TkS w W b x s) {f : PF} {a' : Option Addr} {c' : Nat} (ho : OwnF w' (w.heap.size + 3) a' (x.adds.length + 1) c' (x.adds ++ [f])) (hb : Below (w.heap.size + 3) W w') (O : Obj) (hg : (W.alloc O).grownBy w' (blkOf s.a')) :
    TkS w (w'.setCell ⟨w.heap.size + 2, 4, none⟩ (.slice a' (x.adds.length + 1) c')) b (x.addF f) ⟨s.a, s.c, a', c'⟩ := by
  have hbig := h.big
  refine ⟨h.tk.same ?_ ((h.base.trans (hb.mono (by omega))).setCell (by simp) _), ?_, ?_, ?_, ?_⟩
  · rw [Below.heap_setCell _ _ _ _ (by show w.heap.size + 1 ≠ w.heap.size + 2; omega)]
    exact hb.block _ (by omega)
  · exact (h.res.kept (hb.block _ (by omega))).other (by omega) _ _
  · have := (h.var.kept (hb.block _ (by omega))).set 4 (.slice a' (x.adds.length + 1) c')
    refine this.eq ?_
    simp [eA, PE.addF]
  · refine h.gs.kept fun k e => ?_
    rw [Below.heap_setCell _ _ _ _ (by have := h.gs.ge e; show k ≠ w.heap.size + 2; omega)]
    rw [(Chg.grown hg).block k (by have := tag_lt (h.gs.tag e); simp; omega) (fun e' => tag_ne (h.fs.tag e') (h.gs.tag e) (by decide) rfl)]
    exact Below.heap_alloc _ _ _ (tag_lt (h.gs.tag e))
  · have := ho.kept (w' := w'.setCell ⟨w.heap.size + 2, 4, none⟩ (.slice a' (x.adds.length + 1) c')) fun k e => Below.heap_setCell _ _ _ _ (by have := ho.ge e; show k ≠ w.heap.size + 2; omega)
    simpa [PE.addF] using this
end Go.Proofs.Ytiflepadjcpjjaa
/- The contract of edit's checkFile. -/
namespace Go.Proofs.Ytiflepadjcpjjaa
open Go.RowKit
set_option linter.unusedVariables false
set_option linter.unusedSimpArgs false
theorem Box.nine {w : World} {p : Nat} {f : PF} (h : Box w p TF (fA f)) : F9 w p 0 f := ⟨h.cell 0, h.cell 1, h.cell 2, h.cell 3, h.cell 4, h.cell 5, h.cell 6, h.cell 7, h.cell 8⟩
def kk (f : PF) : Array Value := #[.string f.small.user, .int .u64 (f.small.seq : Int), .int .i64 f.small.kind, .string f.large.user, .int .u64 (f.large.seq : Int), .int .i64 f.large.kind]
def keyAt (f : PF) (k : Nat) : IK := if k = 0 then f.small else f.large
set_option maxRecDepth 100000 in
theorem idx_keys (g c k : Nat) (hk : k < 2) (W : World) : (Instr.indexAt 64 (.slice (some ⟨g, 0, none⟩) 2 c) (.int .i64 (k : Int))).run Try.prog W = .ok (.pointer (some ⟨g, k * 3, none⟩)) W := by
  have h1 : (0 : Int) ≤ (k : Int) ∧ (k : Int) < ((2 : Nat) : Int) := by omega
  have hsz : (sizeOf (Try.prog.elem 64)).run Try.prog W = .ok 3 W := by kernel_rfl
  rw [run_indexAt_slice (P := Try.prog) (h := (by kernel_rfl : Try.prog.underlying 64 = some (.slice (Try.prog.elem 64)))), if_pos h1, hsz]
  simp [Result.andThen, Addr.add_lit]
set_option maxRecDepth 100000 in
set_option maxHeartbeats 1000000 in
theorem checkFile_any (f : PF) (w : World) (hw : WfF f) :
    Calls Try.prog 23 #[.agg #[.int .i64 f.level, .int .u64 (f.num : Int), .int .i64 f.size, .string f.small.user, .int .u64 (f.small.seq : Int), .int .i64 f.small.kind, .string f.large.user, .int .u64 (f.large.seq : Int), .int .i64 f.large.kind]] w fun e w' => e = .returned (.int .i64 ((f.err : Nat) : Int)) ∧ Below w.heap.size w w' := by
  have HW : Hid (Below w.heap.size w (w.alloc (.cells (fA f) TF)) ∧ Box (w.alloc (.cells (fA f) TF)) w.heap.size TF (fA f)) := ⟨(Below.refl _ _).alloc (Nat.le_refl _) _, Box.new _ _ _⟩
  have HF : Hid (WfF f) := hw
  have HG : Hid (∀ W, Calls Try.prog 22 #[.agg #[.int .i64 f.level, .int .u64 (f.num : Int)]] W fun e w' => e = .returned (.int .i64 ((gErr f.level f.num : Nat) : Int)) ∧ Below W.heap.size W w') := fun W => checkGone_any _ _ _
  have HE : Hid (f.err = if gErr f.level f.num ≠ 0 then gErr f.level f.num else if f.size < 1 ∨ 2147483647 < f.size then 132 else if f.small.err ≠ 0 then f.small.err else if f.large.err ≠ 0 then f.large.err else if f.large.cmp f.small < 0 then 132 else 0) := rfl
  generalize f.err = er at HE
  generalize gErr f.level f.num = ge at HG HE
  clear hw
  by_cases hg : ge = 0
  · subst hg
    have HE2 : Hid (er = if f.size < 1 ∨ 2147483647 < f.size then 132 else if f.small.err ≠ 0 then f.small.err else if f.large.err ≠ 0 then f.large.err else if f.large.cmp f.small < 0 then 132 else 0) := HE.out
    clear HE
    by_cases h1 : f.size < 1
    · go_enter Try.func23, Try.ntmps23
      go_wp2_with fail
      refine (HG.out _).mono ?_
      rintro _ w1 ⟨rfl, hb1⟩
      have H1 : Hid (Below w.heap.size w w1 ∧ Box w1 w.heap.size TF (fA f)) := ⟨HW.out.1.trans (hb1.mono HW.out.1.size), HW.out.2.kept (hb1.block _ HW.out.2.lt)⟩
      obtain ⟨c0, c1, c2, c3, c4, c5, c6, c7, c8⟩ := H1.out.2.nine
      clear hb1
      go_wp2
      go_ret
      rw [HE2.out, if_pos (.inl h1)]
      exact ⟨ret1 rfl, H1.out.1⟩
    · by_cases h2 : 2147483647 < f.size
      · go_enter Try.func23, Try.ntmps23
        go_wp2_with fail
        refine (HG.out _).mono ?_
        rintro _ w1 ⟨rfl, hb1⟩
        have H1 : Hid (Below w.heap.size w w1 ∧ Box w1 w.heap.size TF (fA f)) := ⟨HW.out.1.trans (hb1.mono HW.out.1.size), HW.out.2.kept (hb1.block _ HW.out.2.lt)⟩
        obtain ⟨c0, c1, c2, c3, c4, c5, c6, c7, c8⟩ := H1.out.2.nine
        clear hb1
        go_wp2
        go_ret
        rw [HE2.out, if_pos (.inr h2)]
        exact ⟨ret1 rfl, H1.out.1⟩
      · have HE3 : Hid (er = if f.small.err ≠ 0 then f.small.err else if f.large.err ≠ 0 then f.large.err else if f.large.cmp f.small < 0 then 132 else 0) := by have := HE2.out; rw [if_neg (by omega)] at this; exact this
        clear HE2
        go_enter Try.func23, Try.ntmps23
        go_wp2_with fail
        refine (HG.out _).mono ?_
        rintro _ w1 ⟨rfl, hb1⟩
        have H1 : Hid (Below w.heap.size w w1 ∧ Box w1 w.heap.size TF (fA f)) := ⟨HW.out.1.trans (hb1.mono HW.out.1.size), HW.out.2.kept (hb1.block _ HW.out.2.lt)⟩
        obtain ⟨c0, c1, c2, c3, c4, c5, c6, c7, c8⟩ := H1.out.2.nine
        clear hb1
        have HB : Hid (Below w.heap.size w (w1.alloc (.cells (kk f) 42)) ∧ Box (w1.alloc (.cells (kk f) 42)) w.heap.size TF (fA f) ∧ Box (w1.alloc (.cells (kk f) 42)) w1.heap.size 42 (kk f)) := ⟨H1.out.1.alloc H1.out.1.size _, H1.out.2.alloc _, Box.new _ _ _⟩
        go_wp2_with fail
        clear c0 c1 c2 c3 c4 c5 c6 c7 c8
        go_loopw [30] (fun x wr => ∃ k : Nat, k ≤ 2 ∧ x = .int .i64 (k : Int) ∧ Hid (Below w.heap.size w wr ∧ Box wr w.heap.size TF (fA f) ∧ Box wr w1.heap.size 42 (kk f) ∧ (0 < k → f.small.err = 0) ∧ (1 < k → f.large.err = 0))) (fun x _ => 2 - (intOf x).toNat)
        case atStart => exact ⟨0, by omega, rfl, HB.out.1, HB.out.2.1, HB.out.2.2, fun h => by omega, fun h => by omega⟩
        case round =>
          obtain ⟨k, hk, rfl, HR⟩ := hrel
          by_cases hk2 : k < 2
          · have hidx := fun W => idx_keys w1.heap.size 2 k hk2 W
            have HKE : Hid (k = 0 ∧ keyAt f k = f.small ∨ k = 1 ∧ keyAt f k = f.large) := by
              have : k = 0 ∨ k = 1 := by omega
              rcases this with rfl | rfl
              · exact .inl ⟨rfl, rfl⟩
              · exact .inr ⟨rfl, rfl⟩
            have hcs : wr.cell? ⟨w1.heap.size, k * 3, none⟩ = some (.string (keyAt f k).user) ∧ wr.cell? ⟨w1.heap.size, k * 3 + 1, none⟩ = some (.int .u64 ((keyAt f k).seq : Int)) ∧ wr.cell? ⟨w1.heap.size, k * 3 + 2, none⟩ = some (.int .i64 (keyAt f k).kind) := by
              rw [HR.out.2.2.1.cell, HR.out.2.2.1.cell, HR.out.2.2.1.cell]
              rcases HKE.out with ⟨rfl, e⟩ | ⟨rfl, e⟩ <;> rw [e] <;> exact ⟨rfl, rfl, rfl⟩
            have hsz : (keyAt f k).user.size ≤ 9223372036854775807 := by
              have := HF.out
              unfold WfF at this
              rcases HKE.out with ⟨_, e⟩ | ⟨_, e⟩ <;> rw [e] <;> omega
            obtain ⟨c0, c1, c2⟩ := hcs
            have HC : Hid (∀ W, Calls Try.prog 38 #[.agg #[.string (keyAt f k).user, .int .u64 ((keyAt f k).seq : Int), .int .i64 (keyAt f k).kind]] W fun e w' => e = .returned (.int .i64 (((keyAt f k).err : Nat) : Int)) ∧ Below W.heap.size W w') := fun W => check_any _ _ _ W hsz
            generalize keyAt f k = key at *
            clear hsz
            have HN : Hid (Below w.heap.size w (wr.alloc (.cells #[.string key.user, .int .u64 (key.seq : Int), .int .i64 key.kind] 42)) ∧ Box (wr.alloc (.cells #[.string key.user, .int .u64 (key.seq : Int), .int .i64 key.kind] 42)) w.heap.size TF (fA f) ∧ Box (wr.alloc (.cells #[.string key.user, .int .u64 (key.seq : Int), .int .i64 key.kind] 42)) w1.heap.size 42 (kk f)) := ⟨HR.out.1.alloc HR.out.1.size _, HR.out.2.1.alloc _, HR.out.2.2.1.alloc _⟩
            go_wp2_with fail
            refine (HC.out _).mono ?_
            rintro _ w2 ⟨rfl, hb2⟩
            have H2 : Hid (Below w.heap.size w w2 ∧ Box w2 w.heap.size TF (fA f) ∧ Box w2 w1.heap.size 42 (kk f)) := ⟨HN.out.1.trans (hb2.mono HN.out.1.size), HN.out.2.1.kept (hb2.block _ HN.out.2.1.lt), HN.out.2.2.kept (hb2.block _ HN.out.2.2.lt)⟩
            clear hb2 HN
            have HKE2 : Hid (k = 0 ∧ key.err = f.small.err ∨ k = 1 ∧ key.err = f.large.err) := by
              rcases HKE.out with ⟨h, e⟩ | ⟨h, e⟩
              · exact .inl ⟨h, by rw [e]⟩
              · exact .inr ⟨h, by rw [e]⟩
            generalize key.err = ke at HKE2
            by_cases hke : ke = 0
            · subst hke
              go_wp2
              go_roundw
              case rel =>
                refine ⟨k + 1, by omega, by go_num, H2.out.1, H2.out.2.1, H2.out.2.2, fun _ => ?_, fun _ => ?_⟩
                · rcases HKE2.out with ⟨rfl, e⟩ | ⟨rfl, e⟩
                  · exact e.symm
                  · exact HR.out.2.2.2.1 (by omega)
                · rcases HKE2.out with ⟨rfl, e⟩ | ⟨rfl, e⟩
                  · omega
                  · exact e.symm
              case measure => simp only [intOf]; omega
            · have hne : ((ke : Int) != 0) = true := by simp; omega
              go_wp2
              go_ret
              refine ⟨ret1 ?_, H2.out.1⟩
              rw [HE3.out]
              rcases HKE2.out with ⟨rfl, e⟩ | ⟨rfl, e⟩
              · rw [← e, if_pos hke]
                rfl
              · rw [if_neg (by rw [HR.out.2.2.2.1 (by omega)]; simp), ← e, if_pos hke]
                rfl
          · obtain ⟨c0, c1, c2, c3, c4, c5, c6, c7, c8⟩ := HR.out.2.1.nine
            have HC : Hid (∀ W, Calls Try.prog 39 #[.agg #[.string f.large.user, .int .u64 (f.large.seq : Int), .int .i64 f.large.kind], .agg #[.string f.small.user, .int .u64 (f.small.seq : Int), .int .i64 f.small.kind]] W fun e w' => e = .returned (.int .i64 (f.large.cmp f.small)) ∧ Below W.heap.size W w') := fun W => compare_any _ _ _ _ _ _ W
            go_wp2_with fail
            refine (HC.out _).mono ?_
            rintro _ w2 ⟨rfl, hb2⟩
            have H2 : Hid (Below w.heap.size w w2) := HR.out.1.trans (hb2.mono HR.out.1.size)
            clear hb2
            have HE4 : Hid (er = if f.large.cmp f.small < 0 then 132 else 0) := by
              have := HE3.out
              rw [if_neg (by rw [HR.out.2.2.2.1 (by omega)]; simp), if_neg (by rw [HR.out.2.2.2.2 (by omega)]; simp)] at this
              exact this
            clear HE3 HC
            generalize f.large.cmp f.small = cv at HE4
            by_cases hcv : cv < 0
            · go_wp2
              go_ret
              rw [HE4.out, if_pos hcv]
              exact ⟨ret1 rfl, H2.out⟩
            · go_wp2
              go_ret
              rw [HE4.out, if_neg (by omega)]
              exact ⟨ret1 rfl, H2.out⟩
  · have hne : ((ge : Int) != 0) = true := by simp; omega
    go_enter Try.func23, Try.ntmps23
    go_wp2_with fail
    refine (HG.out _).mono ?_
    rintro _ w1 ⟨rfl, hb1⟩
    have H1 : Hid (Below w.heap.size w w1) := HW.out.1.trans (hb1.mono HW.out.1.size)
    clear hb1
    go_wp2
    go_ret
    rw [HE.out, if_pos hg]
    exact ⟨ret1 rfl, H1.out⟩
end Go.Proofs.Ytiflepadjcpjjaa
