/- Where edit's taken is: its answer's variable, the taker, the edit that is read, and its rows. -/
import Derived.Test.YtmlfbihlbiikeaaGreatDoorQe16
import Derived.Maps.AppendAt
set_option linter.unusedVariables false
set_option linter.unusedSimpArgs false
set_option maxRecDepth 100000
namespace Go.Proofs.YtmlfbihlbiikeaaGreatDoor
open Go.RowKit
theorem step_pushV {ops : Array Oper} {o : Oper} {a : Act} {K : Act → World → Prop} {Q : Exit → Act → World → Prop} {E : Prop} (W : World) (hgd : o.guard = none) (s x : Operand) (t e : TypeId)
 (ho : o.op = .call { callee := .builtin .append, args := #[s, x], argTypes := #[t, t] }) (ht : Tryz.prog.underlying t = some (.slice e)) (z : Value) (size bytes : Nat) (hinfo : (Tryz.prog.info? e).map (fun i => (i.zero, i.size, i.bytes)) = some (some z, size, bytes)) (hzs : z.cells.size = size) (hsz : 0 < size)
 (B : Nat) (a1 : Option Addr) (n1 c1 : Nat) (xs : List Value) (hs : a.eval s = .slice a1 n1 c1) (hown : W.ownsRow B e size (.slice a1 n1 c1) n1 xs)
 (cv : Array Value) (hcv : cv.size = size) (h1 : ∀ u ∈ cv.toList, u.oneCell' = true) (g : Nat) (hg : g = W.heap.size) (hx : a.eval x = .slice (some ⟨g, 0, none⟩) 1 1)
 (hm : n1 + 1 ≤ maxLen) (hb : (n1 + 1) * bytes ≤ 140737488355328) (hB : B ≤ W.heap.size)
 (h : ∀ a' c' w', w'.ownsRow B e size (.slice a' (n1 + 1) c') (n1 + 1) (xs ++ cv.toList) → Below B W w' → (W.alloc (.cells cv e)).grownBy w' (blkOf a1) → K (a.put o.dst (.slice a' (n1 + 1) c')) w') :
 if Region.wanted o (yielded ops a.tmps) = true then Oper.wp Tryz.prog o a (W.alloc (.cells cv e)) K Q else E := by
 subst hg
 have hw : Region.wanted o (yielded ops a.tmps) = true := by simp [Region.wanted, hgd]
 rw [if_pos hw]
 obtain ⟨i, hi, hz0, hz1, hz2⟩ := info_parts hinfo
 have hown2 := hown.alloc (.cells cv e)
 have hlt : ∀ k, (Value.slice a1 n1 c1).ownBlock = some k → B ≤ k := fun k hk => (hown.lt k hk).1
 have hB2 : B ≤ (W.alloc (.cells cv e)).heap.size := by simp; omega
 have hcell : ∀ j u, cv.toList[j]? = some u → (W.alloc (.cells cv e)).cell? ((⟨W.heap.size, 0, none⟩ : Addr).add j) = some u := by
  intro j u hu
  rw [Addr.add_lit, Nat.zero_add, (Box.new W e cv).cell, ← Array.getElem?_toList]
  exact hu
 obtain ⟨v', w', hr, h2, h3, h4, h5⟩ := run_append_own_at (P := Tryz.prog) (W.alloc (.cells cv e)) B t o.type e i z size bytes ht hi hz0 hz1 hz2 hzs hsz _ n1 _ hown2 ⟨W.heap.size, 0, none⟩ 1 1 cv.toList (by simp [hcv]) hcell h1 hm hb hB2
 unfold Oper.wp execOp
 simp only [ho, resolve, invoke, builtin, Sem.run_bind, Sem.run_pure, Result.andThen_ok, List.map_toArray, List.map_cons, List.map_nil, hs, hx, hr]
 obtain ⟨a', c', rfl⟩ := slice_of_row h2
 exact h a' c' w' h2 (((Below.refl _ _).alloc hB _).trans ((Below.refl B _).grown h3 hB2 hlt)) (by rw [← own_blk a1 n1 c1]; exact h3)
theorem step_pushG {ops : Array Oper} {o : Oper} {a : Act} {K : Act → World → Prop} {Q : Exit → Act → World → Prop} {E : Prop} (W : World) (hgd : o.guard = none) (s x : Operand)
 (ho : o.op = .call { callee := .builtin .append, args := #[s, x], argTypes := #[63, 63] })
 (B : Nat) (a1 : Option Addr) (n1 c1 : Nat) (l : List PG) (hs : a.eval s = .slice a1 n1 c1) (hown : OwnG W B a1 n1 c1 l) (v : PG) (g : Nat) (hg : g = W.heap.size) (hx : a.eval x = .slice (some ⟨g, 0, none⟩) 1 1)
 (hb : n1 + 1 ≤ 1000000) (hB : B ≤ W.heap.size)
 (h : ∀ a' c' w', OwnG w' B a' (n1 + 1) c' (l ++ [v]) → Below B W w' → (W.alloc (.cells (gA v) TG)).grownBy w' (blkOf a1) → K (a.put o.dst (.slice a' (n1 + 1) c')) w') :
 if Region.wanted o (yielded ops a.tmps) = true then Oper.wp Tryz.prog o a (W.alloc (.cells (gA v) TG)) K Q else E := by
 refine step_pushV W hgd s x _ TG ho Tryz.underlying63 _ 2 16 infoG rfl (by decide) B a1 n1 c1 _ hs hown.row (gA v) rfl (by have := gc_one [v]; simpa [gA, gc] using this) g hg hx (by unfold maxLen; omega) (by omega) hB (fun a' c' w' hr hb hg => h a' c' w' ⟨by rw [List.length_append, hown.size]; rfl, ?_⟩ hb hg)
 rw [List.flatMap_append]
 simpa [gA, gc] using hr
theorem step_pushF {ops : Array Oper} {o : Oper} {a : Act} {K : Act → World → Prop} {Q : Exit → Act → World → Prop} {E : Prop} (W : World) (hgd : o.guard = none) (s x : Operand)
 (ho : o.op = .call { callee := .builtin .append, args := #[s, x], argTypes := #[41, 41] })
 (B : Nat) (a1 : Option Addr) (n1 c1 : Nat) (l : List PF) (hs : a.eval s = .slice a1 n1 c1) (hown : OwnF W B a1 n1 c1 l) (v : PF) (g : Nat) (hg : g = W.heap.size) (hx : a.eval x = .slice (some ⟨g, 0, none⟩) 1 1)
 (hb : n1 + 1 ≤ 1000000) (hB : B ≤ W.heap.size)
 (h : ∀ a' c' w', OwnF w' B a' (n1 + 1) c' (l ++ [v]) → Below B W w' → (W.alloc (.cells (fA v) TF)).grownBy w' (blkOf a1) → K (a.put o.dst (.slice a' (n1 + 1) c')) w') :
 if Region.wanted o (yielded ops a.tmps) = true then Oper.wp Tryz.prog o a (W.alloc (.cells (fA v) TF)) K Q else E := by
 refine step_pushV W hgd s x _ TF ho Tryz.underlying41 _ 9 88 infoF rfl (by decide) B a1 n1 c1 _ hs hown.row (fA v) rfl (by have := fc_one [v]; simpa [fA, fc] using this) g hg hx (by unfold maxLen; omega) (by omega) hB (fun a' c' w' hr hb hg => h a' c' w' ⟨by rw [List.length_append, hown.size]; rfl, ?_⟩ hb hg)
 rw [List.flatMap_append]
 simpa [fA, fc] using hr
structure TkS (w W : World) (b : List UInt8) (x : PE) (s : SE) : Prop where
 tk : Tk w W (w.heap.size + 1) b
 res : Box W w.heap.size TE (eA ez sz0)
 var : Box W (w.heap.size + 2) TE (eA x s)
 gs : OwnG W (w.heap.size + 3) s.a x.dels.length s.c x.dels
 fs : OwnF W (w.heap.size + 3) s.a' x.adds.length s.c' x.adds
theorem TkS.base {w W : World} {b : List UInt8} {x : PE} {s : SE} (h : TkS w W b x s) : Below w.heap.size w W := h.tk.base
theorem TkS.big {w W : World} {b : List UInt8} {x : PE} {s : SE} (h : TkS w W b x s) : w.heap.size + 3 ≤ W.heap.size := h.var.lt
theorem TkS.turn {w W W' : World} {b b' : List UInt8} {x : PE} {s : SE} (h : TkS w W b x s) (hc : Chg (· = w.heap.size + 1) W W') (ht : Tk w W' (w.heap.size + 1) b') : TkS w W' b' x s :=
 ⟨ht, h.res.kept (hc.block _ h.res.lt (by omega)), h.var.kept (hc.block _ h.var.lt (by omega)),
  h.gs.kept fun k e => hc.block _ (tag_lt (h.gs.tag e)) (by have := h.gs.ge e; omega), h.fs.kept fun k e => hc.block _ (tag_lt (h.fs.tag e)) (by have := h.fs.ge e; omega)⟩
theorem TkS.call {w W W' : World} {b : List UInt8} {x : PE} {s : SE} (h : TkS w W b x s) (hb : Below W.heap.size W W') : TkS w W' b x s :=
 ⟨h.tk.call hb, h.res.kept (hb.block _ h.res.lt), h.var.kept (hb.block _ h.var.lt), h.gs.below hb, h.fs.below hb⟩
theorem TkS.drew {w W : World} {b : List UInt8} {x : PE} {s : SE} (h : TkS w W b x s) : TkS w W.drew b x s := h.call (Below.refl _ _).drew
theorem TkS.alloc {w W : World} {b : List UInt8} {x : PE} {s : SE} (h : TkS w W b x s) (o : Obj) : TkS w (W.alloc o) b x s := h.call ((Below.refl _ _).alloc (Nat.le_refl _) _)
theorem TkS.die {w W W' : World} {b : List UInt8} {x : PE} {s : SE} (h : TkS w W b x s) (hc : Chg (· = w.heap.size + 1) W W') : Below w.heap.size w W' := h.tk.stepB hc
def PE.addG (x : PE) (g : PG) : PE := ⟨x.log, x.next, x.last, x.dels ++ [g], x.adds⟩
def PE.addF (x : PE) (f : PF) : PE := ⟨x.log, x.next, x.last, x.dels, x.adds ++ [f]⟩
theorem TkS.pushG {w W w' : World} {b : List UInt8} {x : PE} {s : SE} (h : TkS w W b x s) {g : PG} {a' : Option Addr} {c' : Nat} (ho : OwnG w' (w.heap.size + 3) a' (x.dels.length + 1) c' (x.dels ++ [g])) (hb : Below (w.heap.size + 3) W w') (O : Obj) (hg : (W.alloc O).grownBy w' (blkOf s.a)) :
 TkS w (w'.setCell ⟨w.heap.size + 2, 3, none⟩ (.slice a' (x.dels.length + 1) c')) b (x.addG g) ⟨a', c', s.a', s.c'⟩ := by
 have hbig := h.big
 refine ⟨h.tk.same ?_ ((h.base.trans (hb.mono (by omega))).setCell (by simp) _), ?_, ?_, ?_, ?_⟩
 · rw [Below.heap_setCell _ _ _ _ (by show w.heap.size + 1 ≠ w.heap.size + 2; omega)]
   exact hb.block _ (by omega)
 · exact (h.res.kept (hb.block _ (by omega))).other (by omega) _ _
 · have := (h.var.kept (hb.block _ (by omega))).set 3 (.slice a' (x.dels.length + 1) c')
   refine this.eq ?_
   simp [eA, PE.addG]
 · have := ho.kept (w' := w'.setCell ⟨w.heap.size + 2, 3, none⟩ (.slice a' (x.dels.length + 1) c')) fun k e => Below.heap_setCell _ _ _ _ (by have := ho.ge e; show k ≠ w.heap.size + 2; omega)
   simpa [PE.addG] using this
 · refine h.fs.kept fun k e => ?_
   rw [Below.heap_setCell _ _ _ _ (by have := h.fs.ge e; show k ≠ w.heap.size + 2; omega)]
   rw [(Chg.grown hg).block k (by have := tag_lt (h.fs.tag e); simp; omega) (fun e' => tag_ne (h.gs.tag e') (h.fs.tag e) (by decide) rfl)]
   exact Below.heap_alloc _ _ _ (tag_lt (h.fs.tag e))
theorem TkS.pushF {w W w' : World} {b : List UInt8} {x : PE} {s : SE} (h : TkS w W b x s) {f : PF} {a' : Option Addr} {c' : Nat} (ho : OwnF w' (w.heap.size + 3) a' (x.adds.length + 1) c' (x.adds ++ [f])) (hb : Below (w.heap.size + 3) W w') (O : Obj) (hg : (W.alloc O).grownBy w' (blkOf s.a')) :
 TkS w (w'.setCell ⟨w.heap.size + 2, 4, none⟩ (.slice a' (x.adds.length + 1) c')) b (x.addF f) ⟨s.a, s.c, a', c'⟩ := by
 have hbig := h.big
 refine ⟨h.tk.same ?_ ((h.base.trans (hb.mono (by omega))).setCell (by simp) _), ?_, ?_, ?_, ?_⟩
 · rw [Below.heap_setCell _ _ _ _ (by show w.heap.size + 1 ≠ w.heap.size + 2; omega)]
   exact hb.block _ (by omega)
 · exact (h.res.kept (hb.block _ (by omega))).other (by omega) _ _
 · have := (h.var.kept (hb.block _ (by omega))).set 4 (.slice a' (x.adds.length + 1) c')
   refine this.eq ?_
   simp [eA, PE.addF]
 · refine h.gs.kept fun k e => ?_
   rw [Below.heap_setCell _ _ _ _ (by have := h.gs.ge e; show k ≠ w.heap.size + 2; omega)]
   rw [(Chg.grown hg).block k (by have := tag_lt (h.gs.tag e); simp; omega) (fun e' => tag_ne (h.fs.tag e') (h.gs.tag e) (by decide) rfl)]
   exact Below.heap_alloc _ _ _ (tag_lt (h.gs.tag e))
 · have := ho.kept (w' := w'.setCell ⟨w.heap.size + 2, 4, none⟩ (.slice a' (x.adds.length + 1) c')) fun k e => Below.heap_setCell _ _ _ _ (by have := ho.ge e; show k ≠ w.heap.size + 2; omega)
   simpa [PE.addF] using this
end Go.Proofs.YtmlfbihlbiikeaaGreatDoor
