/- What was told is laid behind: a law for the walk. -/
import Derived.Test.YtehkcgjiimfdjaaAct0
import Derived.Deep.AppendLies
import Derived.Deep.RegionLaw
namespace Go.Proofs.Ytehkcgjiimfdjaa
open Go.RowKit
theorem infoEmit : (Try.prog.info? 34).map (fun i => (i.zero, i.size, i.bytes)) = some (some (.agg #[.int .i64 0, .int .i64 0]), 2, 16) := by kernel_rfl
structure Emitted (w0 w w' : World) (p : Nat) (g : Bg) (B : PB) (i : Nat) (v : Int) (ea : Option Addr) (ec : Nat) : Prop where
  fin : BdAt w0 (w'.setCell ⟨p, 33, none⟩ (.slice ea (B.em.length + 1) ec)) p { g with ea := ea, ec := ec } { B with em := B.em ++ [(i, v)] }
  rest : Rest w (w'.setCell ⟨p, 33, none⟩ (.slice ea (B.em.length + 1) ec))
  cell : w'.cell? ⟨p, 33, none⟩ = some (.slice g.ea B.em.length g.ec)
  soft : w'.frozen? ⟨p, 33, none⟩ = false
  same : ∀ k, k < B.ts.length → w'.heap[g.q k]? = w.heap[g.q k]?
theorem emitted {w0 w w' : World} {p : Nat} {g : Bg} {B : PB} {i : Nat} {v : Int} {r cap : Nat} (h : BdAt w0 w p g B) (hk : B.Ok)
    (hr : w'.ownsRow w0.heap.size 34 2 (.slice (some ⟨r, 0, none⟩) (B.em.length + 1) cap) (B.em.length + 1) (cellsE B.em ++ [.int .i64 (i : Int), .int .i64 v]))
    (hg : w.grownBy w' (Value.slice g.ea B.em.length g.ec).ownBlock) (hrn : (Value.slice g.ea B.em.length g.ec).ownBlock = some r ∨ r = w.heap.size) : Emitted w0 w w' p g B i v (some ⟨r, 0, none⟩) cap := by
  rw [own_blk] at hg hrn
  have hkeep : ∀ k t, tag w k = some t → t ≠ 34 → w'.heap[k]? = w.heap[k]? := fun k t ht hne => hg.block k (tag_lt ht) (fun e => tag_ne ht (h.tagE e.symm) hne rfl)
  have hP := hkeep p _ h.tagP (by decide)
  have hbox : Box w' p 64 (boardL B g).toArray := h.box.kept hP
  have hrp : r ≠ p := by
    rcases hrn with e | e
    · exact tag_ne (h.tagE e) h.tagP (by decide)
    · have := tag_lt h.tagP; omega
  have hrq : ∀ j, j < B.ts.length → r ≠ g.q j := by
    intro j hj
    rcases hrn with e | e
    · exact tag_ne (h.tagE e) (h.tagQ hj) (by decide)
    · have := tag_lt (h.tagQ hj); omega
  have hrt : ∀ k, blkOf g.ta = some k → r ≠ k := by
    intro k hk'
    rcases hrn with e | e
    · exact tag_ne (h.tagE e) (h.tagR hk') (by decide)
    · have := tag_lt (h.tagR hk'); omega
  have hc : (boardL B g)[33]? = some (.slice g.ea B.em.length g.ec) := by
    have := (h.bcell hk.cells hk.own).2.2.2.1
    rw [h.box.cell 33] at this
    simpa using this
  have hbase' : Below w0.heap.size w0 w' := h.base.grown hg h.base.size (fun k e => (h.emits.lt k (by rw [own_blk]; exact e)).1)
  refine ⟨⟨?_, h.count, fun j hj => ?_, ?_, ?_, h.apart, h.hp, h.hq, hbase'.setCell h.hp _⟩, ?_, ?_, hbox.soft 33, fun k hk' => hkeep _ _ (h.tagQ hk') (by decide)⟩
  · refine Box.eq (hbox.set 33 _) ?_
    rw [setArr]
    congr 1
    unfold boardL
    rw [List.set_append, if_neg (by simp [hk.cells]), List.set_append, if_neg (by simp [hk.cells, hk.own])]
    simp [hk.cells, hk.own]
  · exact ⟨((h.tasks j hj).box.kept (hkeep _ _ (h.tagQ hj) (by decide))).other (fun e => h.ne hj e.symm) _ _, (h.tasks j hj).code⟩
  · refine row_same h.row fun b e => ?_
    rw [own_blk] at e
    rw [Below.heap_setCell _ _ _ _ (tag_ne (h.tagR e) h.tagP (by decide)), hkeep _ _ (h.tagR e) (by decide)]
  · have e1 : ({ B with em := B.em ++ [(i, v)] } : PB).em.length = B.em.length + 1 := by simp
    rw [e1]
    show World.ownsRow _ _ _ _ _ _ (cellsE (B.em ++ [(i, v)]))
    rw [cellsE_append]
    refine row_same hr fun b e => ?_
    obtain rfl := Option.some.inj e
    exact Below.heap_setCell _ _ _ _ hrp
  · refine ⟨by have := hg.size; simp; omega, fun k hk' => ?_⟩
    rw [Below.heap_setCell _ _ _ _ (tag_ne hk' h.tagP (by decide)), hkeep _ _ hk' (by decide)]
  · rw [hbox.cell 33]
    simpa using hc
theorem step_emit {ops : Array Oper} {o : Oper} {a : Act} {w : World} {K : Act → World → Prop} {Q : Exit → Act → World → Prop} {E : Prop} (hgd : o.guard = none) (s x : Operand)
    (ho : o.op = .call { callee := .builtin .append, args := #[s, x], argTypes := #[25, 25] })
    {w0 : World} {p : Nat} {g : Bg} {B : PB} (h : BdAt w0 w p g B) (hk : B.Ok) (i : Nat) (v : Int) (hs : a.eval s = .slice g.ea B.em.length g.ec) (b : Nat) (hx : a.eval x = .slice (some ⟨b, 0, none⟩) 1 1)
    (hblk : Box w b 34 #[.int .i64 (i : Int), .int .i64 v]) (hem : B.em.length < 1099511627776)
    (hK : ∀ ea ec w', Emitted w0 w w' p g B i v ea ec → K (a.put o.dst (.slice ea (B.em.length + 1) ec)) w') :
    if Region.wanted o (yielded ops a.tmps) = true then Oper.wp Try.prog o a w K Q else E := by
  obtain ⟨j, hj, hz0, hz1, hz2⟩ := info_parts infoEmit
  refine step_append_lies w hgd s x 25 ho w0.heap.size 34 j _ 2 16 Try.underlying25 hj hz0 hz1 hz2 rfl (by decide) _ _ (cellsE B.em) hs h.emits ⟨b, 0, none⟩ 1 1 [.int .i64 (i : Int), .int .i64 v] hx rfl (World.news_of_block hblk) ?_ (by omega) (by unfold maxLen; omega) (by omega) h.base.size w.heap.size rfl ?_
  · intro u hu
    simp at hu
    rcases hu with rfl | rfl <;> rfl
  · intro r cap w' hr hg hrn _
    exact hK _ _ _ (emitted h hk hr hg hrn)
end Go.Proofs.Ytehkcgjiimfdjaa
