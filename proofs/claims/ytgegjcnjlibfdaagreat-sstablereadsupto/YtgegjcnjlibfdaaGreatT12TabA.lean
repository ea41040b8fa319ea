/- What sstable's tableBytes keeps between two rounds, and within one. -/
import Derived.Test.YtgegjcnjlibfdaaGreatQa10
import Derived.Test.YtgegjcnjlibfdaaGreatQa11
import Derived.Test.YtgegjcnjlibfdaaGreatQa13
namespace Go.Proofs.YtgegjcnjlibfdaaGreat
set_option maxRecDepth 100000
open Go.RowKit Go.Shelf
attribute [local go_sem] Oper.semAt_some
set_option linter.unusedVariables false
set_option linter.unusedSimpArgs false
theorem bodyT_snoc (ps : List (List UInt8 × IK)) (x : List UInt8 × IK) : bodyT (ps ++ [x]) = bodyT ps ++ x.1 := by simp [bodyT]
theorem ixE_snoc : ∀ (ps : List (List UInt8 × IK)) (a : Nat) (x : List UInt8 × IK), ixE a (ps ++ [x]) = ixE a ps ++ [(x.2, strOf (plV (a + (bodyT ps).length) (x.1.length - 4)))]
  | [], a, x => by simp [ixE, bodyT]
  | y :: ps, a, x => by
    have ih := ixE_snoc ps (a + y.1.length) x
    show (y.2, _) :: ixE _ (ps ++ [x]) = _
    rw [ih]
    simp [ixE, bodyT, Nat.add_assoc]
theorem tdOf_snoc (iv : Nat) (gs : List (List KV)) (g : List KV) : tdOf iv (gs ++ [g]) = tdOf iv gs ++ [(partB (layP iv g), lastK g)] := by simp [tdOf]
/-- Between two rounds. -/
structure TI (w : World) (q : Nat) (a : Option Addr) (n c iv bl bits : Nat) (pre : List (GpX w)) (W : World) : Prop where
  base : Below w.heap.size w W
  le : w.heap.size ≤ q
  opt : Box W q TOp (opA (bl : Int) (iv : Int) bits)
  x3 : Box W (q + 3) TKs #[.slice a n c]
  x4 : Box W (q + 4) TOp (opA (bl : Int) (iv : Int) bits)
  here : ∃ (ao ai : Option Addr) (no co ni ci : Nat), Box W (q + 1) TBs #[.slice ao no co] ∧ Box W (q + 2) TKs #[.slice ai ni ci] ∧ OwnB W w.heap.size ao no co (bodyT (tdOf iv (GpX.ls pre))) ∧ OwnK W w.heap.size ai ni ci (ixE 0 (tdOf iv (GpX.ls pre)))
theorem TI.own (w : World) (q : Nat) (a : Option Addr) (n c iv bl bits B : Nat) (hB : w.heap.size ≤ B) : OwnFrom B (TI w q a n c iv bl bits) := by
  rintro pre W W' row ⟨h1, h2, x0, x3, x4, ao, ai, no, co, ni, ci, h3, h4, h5, h6⟩ hg hr
  have hcell : ∀ k arr t fz, W.heap[k]? = some (Obj.cells arr t fz) → W'.heap[k]? = W.heap[k]? := fun k arr t fz hk => hg.block k (Array.getElem?_eq_some_iff.1 hk).1 (fun e => by
    obtain ⟨_, o, ho, hcl⟩ := hr _ e.symm
    rw [hk] at ho
    cases ho
    cases hcl)
  have hrow : ∀ {t : TypeId} {sz : Nat} {a : Option Addr} {n c : Nat} {xs : List Value}, W.ownsRow w.heap.size t sz (.slice a n c) n xs → ∀ k, blkOf a = some k → W'.heap[k]? = W.heap[k]? := fun {t sz a n c xs} ho k hk => by
    rcases ho.2 with ⟨hv, _⟩ | ⟨g, c', cur, hv, hb, hgg, _⟩
    · simp only [Value.slice.injEq] at hv
      rw [hv.1] at hk
      cases hk
    · simp only [Value.slice.injEq] at hv
      rw [hv.1] at hk
      cases hk
      exact hcell _ _ _ _ hgg
  exact ⟨h1.grown hg h1.size (fun k e => by have := (hr k e).1; omega), h2, x0.kept (hcell _ _ _ _ x0), x3.kept (hcell _ _ _ _ x3), x4.kept (hcell _ _ _ _ x4), ao, ai, no, co, ni, ci, h3.kept (hcell _ _ _ _ h3), h4.kept (hcell _ _ _ _ h4), h5.kept (hrow h5.row), h6.kept (hrow h6.row)⟩
def TX (w : World) (c : Code) (pre : List (GpX w)) (W : World) : Prop := False
/-- Within a round. -/
structure TS12 (w : World) (q : Nat) (W : World) (a : Option Addr) (n c iv bl bits : Nat) (ao : Option Addr) (no co : Nat) (lo : List UInt8) (ai : Option Addr) (ni ci : Nat) (li : List KV) (gp : Nat) (pa : Array Value) (V : World) : Prop where
  base : Below w.heap.size w V
  le : w.heap.size ≤ q
  rk : RK w (q + 1) W V
  opt : Box V q TOp (opA (bl : Int) (iv : Int) bits)
  x3 : Box V (q + 3) TKs #[.slice a n c]
  x4 : Box V (q + 4) TOp (opA (bl : Int) (iv : Int) bits)
  bo : Box V (q + 1) TBs #[.slice ao no co]
  bi : Box V (q + 2) TKs #[.slice ai ni ci]
  oo : OwnB V w.heap.size ao no co lo
  oi : OwnK V w.heap.size ai ni ci li
  pl : Box V gp TPl pa
  gq : q + 4 < gp
section
variable {w : World} {q : Nat} {W : World} {a : Option Addr} {n c iv bl bits : Nat} {ao : Option Addr} {no co : Nat} {lo : List UInt8} {ai : Option Addr} {ni ci : Nat} {li : List KV} {gp : Nat} {pa : Array Value} {V V' : World}
theorem TS12.call (h : TS12 w q W a n c iv bl bits ao no co lo ai ni ci li gp pa V) (hb : Below V.heap.size V V') : TS12 w q W a n c iv bl bits ao no co lo ai ni ci li gp pa V' :=
  ⟨h.base.trans (hb.mono h.base.size), h.le, h.rk.trans (RK.of hb h.base.size (by have := h.x4.lt; omega)), h.opt.kept (hb.block _ h.opt.lt), h.x3.kept (hb.block _ h.x3.lt), h.x4.kept (hb.block _ h.x4.lt), h.bo.kept (hb.block _ h.bo.lt), h.bi.kept (hb.block _ h.bi.lt), h.oo.below hb, h.oi.below hb, h.pl.kept (hb.block _ h.pl.lt), h.gq⟩
theorem RK.grow {q' : Nat} {row : Option Nat} (hg : V.grownBy V' row) (hb : Below w.heap.size V V') (hc : ∀ (j : Nat) (o : Obj), row = some j → V.heap[j]? = some o → o.isCells = true) {t2 t3 : TypeId} {r2 r3 : Array Value} (x2 : Box V (q' + 2) t2 r2) (x3 : Box V (q' + 3) t3 r3) (h2 : row ≠ some (q' + 2)) (h3 : row ≠ some (q' + 3)) : RK w q' V V' :=
  ⟨KeepsOthers.of_grownBy hg hc, hb, hg.block _ x2.lt (fun e => h2 e.symm), hg.block _ x3.lt (fun e => h3 e.symm)⟩
theorem row_cells {t : TypeId} {sz B : Nat} {ax : Option Addr} {nx cx : Nat} {xs : List Value} (ho : V.ownsRow B t sz (.slice ax nx cx) nx xs) : ∀ (j : Nat) (o : Obj), blkOf ax = some j → V.heap[j]? = some o → o.isCells = true := by
  intro j o hj hoo
  rcases ho.2 with ⟨hv, _⟩ | ⟨g, c', cur, hv, hb, hgg, _⟩
  · simp only [Value.slice.injEq] at hv
    rw [hv.1] at hj
    cases hj
  · simp only [Value.slice.injEq] at hv
    rw [hv.1] at hj
    cases hj
    rw [hgg] at hoo
    cases hoo
    rfl
theorem TS12.lay (h : TS12 w q W a n c iv bl bits ao no co lo ai ni ci li gp pa V) (hc : Chg (fun k => blkOf ao = some k) V V') {ao' : Option Addr} {no' co' : Nat} {lo' : List UInt8} (ho : OwnB V' w.heap.size ao' no' co' lo') :
    Box V' (q + 1) TBs #[.slice ao no co] ∧ TS12 w q W a n c iv bl bits ao' no' co' lo' ai ni ci li gp pa (V'.setCell ⟨q + 1, 0, none⟩ (.slice ao' no' co')) := by
  have hg : V.grownBy V' (blkOf ao) := ⟨hc.os, hc.tape, hc.output, hc.size, fun k hk hn => hc.block k hk (fun e => hn e.symm)⟩
  have kb : ∀ {p : Nat} {t : TypeId} {arr : Array Value}, Box V p t arr → t ≠ 5 → Box V' p t arr := fun {p t arr} hp ht => hp.kept (hc.block _ hp.lt (fun e => h.oo.apart hp ht e))
  have hbB : Below w.heap.size V V' := hc.below (fun k e => h.oo.ge e) h.base.size
  have hk1 := kb h.bo (by decide)
  have hoi : OwnK V' w.heap.size ai ni ci li := h.oi.kept fun k e => hc.block k (tag_lt (h.oi.tag e)) (fun e2 => by have h1 := h.oo.tag e2; rw [h.oi.tag e] at h1; cases h1)
  have hle := h.le
  have hgq := h.gq
  refine ⟨hk1, (h.base.trans hbB).setCell (p := ⟨q + 1, 0, none⟩) (by show w.heap.size ≤ q + 1; omega) _, h.le, ?_, (kb h.opt (by decide)).other (by omega) _ _, (kb h.x3 (by decide)).other (by omega) _ _, (kb h.x4 (by decide)).other (by omega) _ _, (hk1.set 0 _).eq (by simp), (kb h.bi (by decide)).other (by omega) _ _, ?_, ?_, (kb h.pl (by decide)).other (by omega) _ _, h.gq⟩
  · refine (h.rk.trans (RK.grow hg hbB (row_cells h.oo.row) h.x3 h.x4 (fun e => h.oo.apart h.x3 (by decide) e) (fun e => h.oo.apart h.x4 (by decide) e))).trans (RK.set _ _ _ _ (by omega) (by omega) (by omega))
  · exact ho.kept fun k e => Below.heap_setCell _ _ _ _ (fun e2 => ho.apart hk1 (by decide) (by rw [e, e2]))
  · exact hoi.kept fun k e => Below.heap_setCell _ _ _ _ (fun e2 => by have h1 := hoi.tag e; rw [e2, hk1.tag] at h1; cases h1)
theorem TS12.setPl (h : TS12 w q W a n c iv bl bits ao no co lo ai ni ci li gp pa V) (hgw : w.heap.size ≤ gp) (j : Nat) (v : Value) : TS12 w q W a n c iv bl bits ao no co lo ai ni ci li gp (pa.setIfInBounds j v) (V.setCell ⟨gp, j, none⟩ v) := by
  have hgq := h.gq
  refine ⟨h.base.setCell (p := ⟨gp, j, none⟩) hgw _, h.le, h.rk.trans (RK.set _ _ _ _ hgw (by omega) (by omega)), h.opt.other (by omega) _ _, h.x3.other (by omega) _ _, h.x4.other (by omega) _ _, h.bo.other (by omega) _ _, h.bi.other (by omega) _ _, ?_, ?_, h.pl.set _ _, h.gq⟩
  · exact h.oo.kept fun k e => Below.heap_setCell _ _ _ _ (fun e2 => h.oo.apart h.pl (by decide) (by rw [e, e2]))
  · exact h.oi.kept fun k e => Below.heap_setCell _ _ _ _ (fun e2 => by have h1 := h.oi.tag e; rw [e2, h.pl.tag] at h1; cases h1)
theorem TS12.push (h : TS12 w q W a n c iv bl bits ao no co lo ai ni ci li gp pa V) (o : Obj) (hb : Below w.heap.size V V') (hg : (V.alloc o).grownBy V' (blkOf ai)) {ai' : Option Addr} {ni' ci' : Nat} {li' : List KV} (ho : OwnK V' w.heap.size ai' ni' ci' li') :
    Box V' (q + 2) TKs #[.slice ai ni ci] ∧ Box V' gp TPl pa ∧ TS12 w q W a n c iv bl bits ao no co lo ai' ni' ci' li' gp pa (V'.setCell ⟨q + 2, 0, none⟩ (.slice ai' ni' ci')) := by
  have hA : Below V.heap.size V (V.alloc o) := (Below.refl _ _).alloc (Nat.le_refl _) _
  have h2 := h.call hA
  have kb : ∀ {p : Nat} {t : TypeId} {arr : Array Value}, Box (V.alloc o) p t arr → t ≠ TKV → Box V' p t arr := fun {p t arr} hp ht => hp.kept (hg.block _ hp.lt (fun e => by have h1 := h2.oi.tag e.symm; rw [hp.tag] at h1; exact ht (Option.some.inj h1)))
  have hoo : OwnB V' w.heap.size ao no co lo := h2.oo.kept fun k e => hg.block k (tag_lt (h2.oo.tag e)) (fun e2 => by have h1 := h2.oi.tag e2.symm; rw [h2.oo.tag e] at h1; cases h1)
  have hbB : Below w.heap.size (V.alloc o) V' := ⟨hg.os, hg.tape, hg.output, hg.size, fun k hk => hg.block k (Nat.lt_of_lt_of_le hk h2.base.size) (fun e => by have := h2.oi.ge e.symm; omega)⟩
  have hk1 := kb h2.bi (by decide)
  have hle := h.le
  have hgq := h.gq
  refine ⟨hk1, kb h2.pl (by decide), (h2.base.trans hbB).setCell (p := ⟨q + 2, 0, none⟩) (by show w.heap.size ≤ q + 2; omega) _, h.le, ?_, (kb h2.opt (by decide)).other (by omega) _ _, (kb h2.x3 (by decide)).other (by omega) _ _, (kb h2.x4 (by decide)).other (by omega) _ _, (kb h2.bo (by decide)).other (by omega) _ _, (hk1.set 0 _).eq (by simp), ?_, ?_, (kb h2.pl (by decide)).other (by omega) _ _, h.gq⟩
  · refine (h2.rk.trans (RK.grow hg hbB (row_cells h2.oi.row) h2.x3 h2.x4 (fun e => by have h1 := h2.oi.tag e; rw [h2.x3.tag] at h1; cases h1) (fun e => by have h1 := h2.oi.tag e; rw [h2.x4.tag] at h1; cases h1))).trans (RK.set _ _ _ _ (by omega) (by omega) (by omega))
  · exact hoo.kept fun k e => Below.heap_setCell _ _ _ _ (fun e2 => hoo.apart hk1 (by decide) (by rw [e, e2]))
  · exact ho.kept fun k e => Below.heap_setCell _ _ _ _ (fun e2 => by have h1 := ho.tag e; rw [e2, hk1.tag] at h1; cases h1)
end
end Go.Proofs.YtgegjcnjlibfdaaGreat
