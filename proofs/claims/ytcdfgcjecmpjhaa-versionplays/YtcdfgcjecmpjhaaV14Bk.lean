/- An edit that is built row by row, in a variable; how many files an edit leaves. -/
import Derived.Test.YtcdfgcjecmpjhaaV14Reg
import Derived.Maps.AppendAt
namespace Go.Proofs.Ytcdfgcjecmpjhaa
open Go.RowKit
set_option linter.unusedVariables false
set_option linter.unusedSimpArgs false
/-- An element appended, as a step of a region that draws its order. -/
theorem step_pushV {ops : Array Oper} {o : Oper} {a : Act} {K : Act → World → Prop} {Q : Exit → Act → World → Prop} {E : Prop} (W : World) (hgd : o.guard = none) (s x : Operand) (t e : TypeId)
    (ho : o.op = .call { callee := .builtin .append, args := #[s, x], argTypes := #[t, t] }) (ht : Try.prog.underlying t = some (.slice e)) (z : Value) (size bytes : Nat) (hinfo : (Try.prog.info? e).map (fun i => (i.zero, i.size, i.bytes)) = some (some z, size, bytes)) (hzs : z.cells.size = size) (hsz : 0 < size)
    (B : Nat) (a1 : Option Addr) (n1 c1 : Nat) (xs : List Value) (hs : a.eval s = .slice a1 n1 c1) (hown : W.ownsRow B e size (.slice a1 n1 c1) n1 xs)
    (cv : Array Value) (hcv : cv.size = size) (h1 : ∀ u ∈ cv.toList, u.oneCell' = true) (g : Nat) (hg : g = W.heap.size) (hx : a.eval x = .slice (some ⟨g, 0, none⟩) 1 1)
    (hm : n1 + 1 ≤ maxLen) (hb : (n1 + 1) * bytes ≤ 140737488355328) (hB : B ≤ W.heap.size)
    (h : ∀ a' c' w', w'.ownsRow B e size (.slice a' (n1 + 1) c') (n1 + 1) (xs ++ cv.toList) → Below B W w' → (W.alloc (.cells cv e)).grownBy w' (blkOf a1) → K (a.put o.dst (.slice a' (n1 + 1) c')) w') :
    if Region.wanted o (yielded ops a.tmps) = true then Oper.wp Try.prog o a (W.alloc (.cells cv e)) K Q else E := by
  subst hg
  have hw : Region.wanted o (yielded ops a.tmps) = true := by simp [Region.wanted, hgd]
  rw [if_pos hw]
  obtain ⟨i, hi, hz0, hz1, hz2⟩ := info_parts hinfo
  have hown2 := hown.alloc (.cells cv e)
  have hlt : ∀ k, (Value.slice a1 n1 c1).ownBlock = some k → B ≤ k := fun k hk => (hown.lt k hk).1
  have hB2 : B ≤ (W.alloc (.cells cv e)).heap.size := by simp; omega
  have hcell : ∀ j u, cv.toList[j]? = some u → (W.alloc (.cells cv e)).cell? ((⟨W.heap.size, 0, none⟩ : Addr).add j) = some u := by
    intro j u hu
    rw [Addr.add_lit, Nat.zero_add, (Box.new W e cv).cell, ← Array.getElem?_toList]
    exact hu
  obtain ⟨v', w', hr, h2, h3, h4, h5⟩ := run_append_own_at (P := Try.prog) (W.alloc (.cells cv e)) B t o.type e i z size bytes ht hi hz0 hz1 hz2 hzs hsz _ n1 _ hown2 ⟨W.heap.size, 0, none⟩ 1 1 cv.toList (by simp [hcv]) hcell h1 hm hb hB2
  unfold Oper.wp execOp
  simp only [ho, resolve, invoke, builtin, Sem.run_bind, Sem.run_pure, Result.andThen_ok, List.map_toArray, List.map_cons, List.map_nil, hs, hx, hr]
  obtain ⟨a', c', rfl⟩ := slice_of_row h2
  exact h a' c' w' h2 (((Below.refl _ _).alloc hB _).trans ((Below.refl B _).grown h3 hB2 hlt)) (by rw [← own_blk a1 n1 c1]; exact h3)
theorem step_pushG {ops : Array Oper} {o : Oper} {a : Act} {K : Act → World → Prop} {Q : Exit → Act → World → Prop} {E : Prop} (W : World) (hgd : o.guard = none) (s x : Operand)
    (ho : o.op = .call { callee := .builtin .append, args := #[s, x], argTypes := #[34, 34] })
    (B : Nat) (a1 : Option Addr) (n1 c1 : Nat) (l : List PG) (hs : a.eval s = .slice a1 n1 c1) (hown : OwnG W B a1 n1 c1 l) (v : PG) (g : Nat) (hg : g = W.heap.size) (hx : a.eval x = .slice (some ⟨g, 0, none⟩) 1 1)
    (hb : n1 + 1 ≤ 1000000000) (hB : B ≤ W.heap.size)
    (h : ∀ a' c' w', OwnG w' B a' (n1 + 1) c' (l ++ [v]) → Below B W w' → (W.alloc (.cells (gA v) TG)).grownBy w' (blkOf a1) → K (a.put o.dst (.slice a' (n1 + 1) c')) w') :
    if Region.wanted o (yielded ops a.tmps) = true then Oper.wp Try.prog o a (W.alloc (.cells (gA v) TG)) K Q else E := by
  refine step_pushV W hgd s x _ TG ho Try.underlying34 _ 2 16 infoG rfl (by decide) B a1 n1 c1 _ hs hown.row (gA v) rfl (by have := gc_one [v]; simpa [gA, gc] using this) g hg hx (by unfold maxLen; omega) (by omega) hB (fun a' c' w' hr hb hg => h a' c' w' ⟨by rw [List.length_append, hown.size]; rfl, ?_⟩ hb hg)
  rw [List.flatMap_append]
  simpa [gA, gc] using hr
theorem step_pushF {ops : Array Oper} {o : Oper} {a : Act} {K : Act → World → Prop} {Q : Exit → Act → World → Prop} {E : Prop} (W : World) (hgd : o.guard = none) (s x : Operand)
    (ho : o.op = .call { callee := .builtin .append, args := #[s, x], argTypes := #[23, 23] })
    (B : Nat) (a1 : Option Addr) (n1 c1 : Nat) (l : List PF) (hs : a.eval s = .slice a1 n1 c1) (hown : OwnF W B a1 n1 c1 l) (v : PF) (g : Nat) (hg : g = W.heap.size) (hx : a.eval x = .slice (some ⟨g, 0, none⟩) 1 1)
    (hb : n1 + 1 ≤ 1000000000) (hB : B ≤ W.heap.size)
    (h : ∀ a' c' w', OwnF w' B a' (n1 + 1) c' (l ++ [v]) → Below B W w' → (W.alloc (.cells (fA v) TF)).grownBy w' (blkOf a1) → K (a.put o.dst (.slice a' (n1 + 1) c')) w') :
    if Region.wanted o (yielded ops a.tmps) = true then Oper.wp Try.prog o a (W.alloc (.cells (fA v) TF)) K Q else E := by
  refine step_pushV W hgd s x _ TF ho Try.underlying23 _ 9 88 infoF rfl (by decide) B a1 n1 c1 _ hs hown.row (fA v) rfl (by have := fc_one [v]; simpa [fA, fc] using this) g hg hx (by unfold maxLen; omega) (by omega) hB (fun a' c' w' hr hb hg => h a' c' w' ⟨by rw [List.length_append, hown.size]; rfl, ?_⟩ hb hg)
  rw [List.flatMap_append]
  simpa [fA, fc] using hr
/-- An edit in a variable that is the first block since W5; its rows are the call's own. -/
structure Bk (W : World) (x : PE) (s : SE) (V : World) : Prop where
  base : Below W.heap.size W V
  var : Box V W.heap.size TE (eA x s)
  gs : OwnG V (W.heap.size + 1) s.a x.dels.length s.c x.dels
  fs : OwnF V (W.heap.size + 1) s.a' x.adds.length s.c' x.adds
theorem Bk.new (W : World) : Bk W ez sz0 (W.alloc (.cells (eA ez sz0) TE)) :=
  ⟨(Below.refl _ _).alloc (Nat.le_refl _) _, Box.new _ _ _, OwnG.nil _ _, OwnF.nil _ _⟩
theorem Bk.big {W V : World} {x : PE} {s : SE} (h : Bk W x s V) : W.heap.size + 1 ≤ V.heap.size := h.var.lt
theorem Bk.call {W V V' : World} {x : PE} {s : SE} (h : Bk W x s V) (hb : Below V.heap.size V V') : Bk W x s V' :=
  ⟨h.base.trans (hb.mono h.base.size), h.var.kept (hb.block _ h.var.lt), h.gs.below hb, h.fs.below hb⟩
theorem Bk.drew {W V : World} {x : PE} {s : SE} (h : Bk W x s V) : Bk W x s V.drew := h.call (Below.refl _ _).drew
theorem Bk.alloc {W V : World} {x : PE} {s : SE} (h : Bk W x s V) (o : Obj) : Bk W x s (V.alloc o) := h.call ((Below.refl _ _).alloc (Nat.le_refl _) _)
def PE.addG (x : PE) (g : PG) : PE := ⟨x.log, x.next, x.last, x.dels ++ [g], x.adds⟩
def PE.addF (x : PE) (f : PF) : PE := ⟨x.log, x.next, x.last, x.dels, x.adds ++ [f]⟩
theorem Bk.pushG {W V V' : World} {x : PE} {s : SE} (h : Bk W x s V) {g : PG} {a' : Option Addr} {c' : Nat} (ho : OwnG V' (W.heap.size + 1) a' (x.dels.length + 1) c' (x.dels ++ [g])) (hb : Below (W.heap.size + 1) V V') (hg : V.grownBy V' (blkOf s.a)) :
    Bk W (x.addG g) ⟨a', c', s.a', s.c'⟩ (V'.setCell ⟨W.heap.size, 3, none⟩ (.slice a' (x.dels.length + 1) c')) := by
  have hbig := h.big
  refine ⟨(h.base.trans (hb.mono (by omega))).setCell (by simp) _, ?_, ?_, ?_⟩
  · have := (h.var.kept (hb.block _ (by omega))).set 3 (.slice a' (x.dels.length + 1) c')
    refine this.eq ?_
    simp [eA, PE.addG]
  · have := ho.kept (w' := V'.setCell ⟨W.heap.size, 3, none⟩ (.slice a' (x.dels.length + 1) c')) fun k e => Below.heap_setCell _ _ _ _ (by have := ho.ge e; show k ≠ W.heap.size; omega)
    simpa [PE.addG] using this
  · refine h.fs.kept fun k e => ?_
    rw [Below.heap_setCell _ _ _ _ (by have := h.fs.ge e; show k ≠ W.heap.size; omega)]
    exact (Chg.grown hg).block k (tag_lt (h.fs.tag e)) (fun e' => tag_ne (h.gs.tag e') (h.fs.tag e) (by decide) rfl)
theorem Bk.pushF {W V V' : World} {x : PE} {s : SE} (h : Bk W x s V) {f : PF} {a' : Option Addr} {c' : Nat} (ho : OwnF V' (W.heap.size + 1) a' (x.adds.length + 1) c' (x.adds ++ [f])) (hb : Below (W.heap.size + 1) V V') (O : Obj) (hg : (V.alloc O).grownBy V' (blkOf s.a')) :
    Bk W (x.addF f) ⟨s.a, s.c, a', c'⟩ (V'.setCell ⟨W.heap.size, 4, none⟩ (.slice a' (x.adds.length + 1) c')) := by
  have hbig := h.big
  refine ⟨(h.base.trans (hb.mono (by omega))).setCell (by simp) _, ?_, ?_, ?_⟩
  · have := (h.var.kept (hb.block _ (by omega))).set 4 (.slice a' (x.adds.length + 1) c')
    refine this.eq ?_
    simp [eA, PE.addF]
  · refine h.gs.kept fun k e => ?_
    rw [Below.heap_setCell _ _ _ _ (by have := h.gs.ge e; show k ≠ W.heap.size; omega)]
    rw [(Chg.grown hg).block k (by have := tag_lt (h.gs.tag e); simp; omega) (fun e' => tag_ne (h.fs.tag e') (h.gs.tag e) (by decide) rfl)]
    exact Below.heap_alloc _ _ _ (tag_lt (h.gs.tag e))
  · have := ho.kept (w' := V'.setCell ⟨W.heap.size, 4, none⟩ (.slice a' (x.adds.length + 1) c')) fun k e => Below.heap_setCell _ _ _ _ (by have := ho.ge e; show k ≠ W.heap.size; omega)
    simpa [PE.addF] using this
theorem nodup_len : ∀ {l m : List Nat}, l.Nodup → (∀ x ∈ l, x ∈ m) → l.length ≤ m.length
  | [], _, _, _ => Nat.zero_le _
  | a :: r, m, h, hs => by
    have ha := hs a (by simp)
    have h1 := nodup_len (l := r) (m := m.erase a) (List.nodup_cons.1 h).2 (fun x hx => by
      have hne : x ≠ a := fun e => by subst e; exact (List.nodup_cons.1 h).1 hx
      exact (List.mem_erase_of_ne hne).2 (hs x (by simp [hx])))
    rw [List.length_erase_of_mem ha] at h1
    have h2 := List.length_pos_of_mem ha
    rw [List.length_cons]
    omega
/-- How many files an edit leaves, and that they are as a program can have them. -/
theorem apply_len {v u : PV} {x : PE} (h : applyV v x = (0, u)) : u.all.length ≤ v.all.length + 100 := by
  obtain ⟨hv, he, _⟩ := apply_zero h
  obtain ⟨_, ha, _⟩ := PE.err_zero he
  obtain ⟨h1, h2⟩ := apply_ok h
  have := nodup_len (m := (x.adds ++ v.all).map PF.num) h1.one (fun n hn => by
    obtain ⟨f, hf, rfl⟩ := List.mem_map.1 hn
    refine List.mem_map.2 ⟨f, List.mem_append.2 ?_, rfl⟩
    rcases (h2 f).1 hf with h3 | h3
    · exact .inl h3
    · exact .inr h3.1)
  simp only [List.length_map, List.length_append] at this
  omega
theorem apply_wf {v u : PV} {x : PE} (h : applyV v x = (0, u)) (hv : WfV v) (hx : WfE x) : WfV u := by
  intro n hn f hf
  rcases ((apply_ok h).2 f).1 (mem_all.2 ⟨n, hn, hf⟩) with h3 | h3
  · exact hx f h3
  · obtain ⟨k, hk, hf'⟩ := mem_all.1 h3.1
    exact hv k hk f hf'
theorem back_len {v : PV} {N : Nat} (hv : ∀ n, n < 4 → (v n).length ≤ N) : ∀ {l : List PG}, (∀ d ∈ l, d.err = 0) → (l.flatMap fun d => (v d.level.toNat).filter fun f => decide (f.num = d.num)).length ≤ l.length * N
  | [], _ => by simp
  | d :: r, h => by
    rw [List.flatMap_cons, List.length_append, List.length_cons, Nat.succ_mul]
    have h1 := back_len hv (l := r) (fun e he => h e (by simp [he]))
    have h2 := List.length_filter_le (fun f : PF => decide (f.num = d.num)) (v d.level.toNat)
    have h3 := hv _ (lev_nat' (h d (by simp))).1
    omega
theorem back_wf {v : PV} {x : PE} (hv : WfV v) (h : VOk v) (he : ∀ d ∈ x.dels, d.err = 0) : WfE (back v x) := fun f hf => by
  obtain ⟨n, hn, hfn⟩ := mem_all.1 ((mem_back h he).1 hf).1
  exact hv n hn f hfn
end Go.Proofs.Ytcdfgcjecmpjhaa
