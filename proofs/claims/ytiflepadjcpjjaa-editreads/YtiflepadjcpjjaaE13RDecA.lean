/- Where the document's own Decode is; what is left to be read, plainly. -/
import Derived.Test.YtiflepadjcpjjaaQa11
import Derived.Test.YtiflepadjcpjjaaQa09
import Derived.Test.YtiflepadjcpjjaaE13REncB
namespace Go.Proofs.Ytiflepadjcpjjaa
open Go.RowKit
set_option linter.unusedVariables false
set_option linter.unusedSimpArgs false
def KA (lg nx la : Nat) (dels : List PG) (b : List UInt8) : Option PE := (numR b).bind fun m => (readL rtakeF (min m.1 101) m.2).bind fun a => some ⟨lg, nx, la, dels, a.1⟩
def KD (lg nx la : Nat) (b : List UInt8) : Option PE := (numR b).bind fun c => (readL rtakeG (min c.1 20001) c.2).bind fun d => KA lg nx la d.1 d.2
def KC (lg nx : Nat) (b : List UInt8) : Option PE := (numR b).bind fun s => KD lg nx s.1 s.2
def KB (lg : Nat) (b : List UInt8) : Option PE := (numR b).bind fun n => KC lg n.1 n.2
theorem rtakeE_eq (b : List UInt8) : rtakeE b = (some b).bind fun b => (numR b).bind fun l => KB l.1 l.2 := rfl
theorem readG_step {β : Type} (F : List PG → List UInt8 → Option β) (dels : List PG) (m : Nat) (st : Option (List UInt8)) :
    (st.bind fun r => (readL rtakeG (m + 1) r).bind fun d => F (dels ++ d.1) d.2) = st.bind fun r => (rlev r).bind fun p => (numR p.2).bind fun q => (readL rtakeG m q.2).bind fun d => F ((dels ++ [⟨p.1, q.1⟩]) ++ d.1) d.2 := by
  cases st with
  | none => rfl
  | some r =>
    simp only [Option.bind_some, readL, rtakeG]
    cases h1 : rlev r with
    | none => rfl
    | some p =>
      simp only [Option.bind_some]
      cases h2 : numR p.2 with
      | none => rfl
      | some q =>
        simp only [Option.bind_some]
        cases h3 : readL rtakeG m q.2 with
        | none => rfl
        | some d => simp
theorem readF_step {β : Type} (F : List PF → List UInt8 → Option β) (adds : List PF) (m : Nat) (st : Option (List UInt8)) :
    (st.bind fun r => (readL rtakeF (m + 1) r).bind fun d => F (adds ++ d.1) d.2) = st.bind fun r => (rlev r).bind fun p => (numR p.2).bind fun q => (rsize q.2).bind fun z => (keyR z.2).bind fun a => (keyR a.2).bind fun c => (readL rtakeF m c.2).bind fun d => F ((adds ++ [⟨p.1, q.1, z.1, a.1, c.1⟩]) ++ d.1) d.2 := by
  cases st with
  | none => rfl
  | some r =>
    simp only [Option.bind_some, readL, rtakeF]
    cases h1 : rlev r with
    | none => rfl
    | some p =>
      simp only [Option.bind_some]
      cases h2 : numR p.2 with
      | none => rfl
      | some q =>
        simp only [Option.bind_some]
        cases h3 : rsize q.2 with
        | none => rfl
        | some z =>
          simp only [Option.bind_some]
          cases h4 : keyR z.2 with
          | none => rfl
          | some a =>
            simp only [Option.bind_some]
            cases h5 : keyR a.2 with
            | none => rfl
            | some c =>
              simp only [Option.bind_some]
              cases h6 : readL rtakeF m c.2 with
              | none => rfl
              | some d => simp
def FZ (lg nx la : Nat) (dels : List PG) (l : List PF) (_r : List UInt8) : Option PE := some ⟨lg, nx, la, dels, l⟩
section
variable (F : List PF → List UInt8 → Option PE) (adds : List PF) (m : Nat)
def F5 (lv : Int) (nm : Nat) (sz : Int) (ka kb : IK) (r : List UInt8) : Option PE := (readL rtakeF m r).bind fun d => F ((adds ++ [⟨lv, nm, sz, ka, kb⟩]) ++ d.1) d.2
def F4 (lv : Int) (nm : Nat) (sz : Int) (ka : IK) (r : List UInt8) : Option PE := (keyR r).bind fun c => F5 F adds m lv nm sz ka c.1 c.2
def F3 (lv : Int) (nm : Nat) (sz : Int) (r : List UInt8) : Option PE := (keyR r).bind fun a => F4 F adds m lv nm sz a.1 a.2
def F2 (lv : Int) (nm : Nat) (r : List UInt8) : Option PE := (rsize r).bind fun z => F3 F adds m lv nm z.1 z.2
def F1 (lv : Int) (r : List UInt8) : Option PE := (numR r).bind fun q => F2 F adds m lv q.1 q.2
theorem readF_step1 (st : Option (List UInt8)) : (st.bind fun r => (readL rtakeF (m + 1) r).bind fun d => F (adds ++ d.1) d.2) = st.bind fun r => (rlev r).bind fun p => F1 F adds m p.1 p.2 := readF_step F adds m st
end
theorem read_end {α β : Type} (f : List UInt8 → Option (α × List UInt8)) (F : List α → List UInt8 → Option β) (l : List α) (st : Option (List UInt8)) :
    (st.bind fun r => (readL f 0 r).bind fun d => F (l ++ d.1) d.2) = st.bind fun r => F l r := by
  cases st with
  | none => rfl
  | some r => simp [readL]
theorem got_size {st st1 : Option (List UInt8)} {v : Nat} (h : Got st numR v st1) (hv : v ≤ 2147483648) : Got st rsize (toI v) st1 := by
  rw [toI_small (by omega)]
  rcases h with ⟨h1, rfl⟩ | ⟨b', h1, rfl⟩
  · refine .inl ⟨?_, rfl⟩
    cases st with
    | none => rfl
    | some b =>
      simp only [Option.bind_some] at h1 ⊢
      unfold rsize
      rw [h1]
      rfl
  · refine .inr ⟨b', ?_, rfl⟩
    cases st with
    | none => cases h1
    | some b =>
      simp only [Option.bind_some] at h1 ⊢
      unfold rsize
      rw [h1, Option.bind_some, if_pos hv]
theorem got_size_no {st st1 : Option (List UInt8)} {v : Nat} (h : Got st numR v st1) (hv : ¬ v ≤ 2147483648) : Got st rsize (toI v) none := by
  refine .inl ⟨?_, rfl⟩
  rcases h with ⟨h1, rfl⟩ | ⟨b', h1, rfl⟩
  · cases st with
    | none => rfl
    | some b =>
      simp only [Option.bind_some] at h1 ⊢
      unfold rsize
      rw [h1]
      rfl
  · cases st with
    | none => cases h1
    | some b =>
      simp only [Option.bind_some] at h1 ⊢
      unfold rsize
      rw [h1, Option.bind_some, if_neg hv]
theorem rtakeF_wf {b r : List UInt8} {f : PF} (h : rtakeF b = some (f, r)) : WfF f := by
  unfold rtakeF at h
  simp only [Option.bind_eq_some_iff, Option.some.injEq, Prod.mk.injEq, Prod.exists] at h
  obtain ⟨p, b1, h1, q, b2, h2, z, b3, h3, k, b4, h4, k', b5, h5, rfl, rfl⟩ := h
  have e3 := err_le (keyR_len h4).2
  have e4 := err_le (keyR_len h5).2
  exact ⟨by show k.user.size ≤ _; omega, by show k'.user.size ≤ _; omega⟩
theorem rtakeE_wf {b : List UInt8} {x : PE} (h : rtakeE b = some x) : WfE x := by
  unfold rtakeE at h
  simp only [Option.bind_eq_some_iff, Option.some.injEq, Prod.exists] at h
  obtain ⟨_, _, _, _, _, _, _, _, _, _, _, _, d, _, _, m, _, _, ad, _, h7, rfl⟩ := h
  intro f hf
  obtain ⟨b', r', hb⟩ := readL_all h7 f hf
  exact rtakeF_wf hb
structure RdS (w W : World) (st : Option (List UInt8)) (x : PE) (s : SE) : Prop where
  rd : Rd w W (w.heap.size + 1) st
  res : Box W w.heap.size TE (eA ez sz0)
  var : Box W (w.heap.size + 2) TE (eA x s)
  gs : OwnG W (w.heap.size + 3) s.a x.dels.length s.c x.dels
  fs : OwnF W (w.heap.size + 3) s.a' x.adds.length s.c' x.adds
section
variable {w W W' : World} {st st' : Option (List UInt8)} {x : PE} {s : SE}
theorem RdS.base (h : RdS w W st x s) : Below w.heap.size w W := h.rd.base
theorem RdS.big (h : RdS w W st x s) : w.heap.size + 3 ≤ W.heap.size := h.var.lt
theorem RdS.turn (h : RdS w W st x s) (hc : Chg (· = w.heap.size + 1) W W') (ht : Rd w W' (w.heap.size + 1) st') : RdS w W' st' x s :=
  ⟨ht, h.res.kept (hc.block _ h.res.lt (by omega)), h.var.kept (hc.block _ h.var.lt (by omega)),
    h.gs.kept fun k e => hc.block _ (tag_lt (h.gs.tag e)) (by have := h.gs.ge e; omega), h.fs.kept fun k e => hc.block _ (tag_lt (h.fs.tag e)) (by have := h.fs.ge e; omega)⟩
theorem RdS.call (h : RdS w W st x s) (hb : Below W.heap.size W W') : RdS w W' st x s :=
  ⟨h.rd.call hb, h.res.kept (hb.block _ h.res.lt), h.var.kept (hb.block _ h.var.lt), h.gs.below hb, h.fs.below hb⟩
theorem RdS.alloc (h : RdS w W st x s) (o : Obj) : RdS w (W.alloc o) st x s := h.call ((Below.refl _ _).alloc (Nat.le_refl _) _)
/-- A number of the edit is set. -/
theorem RdS.setn (h : RdS w W st x s) (j : Nat) (v : Value) (x' : PE) (hd : x'.dels = x.dels) (ha : x'.adds = x.adds) (he : (eA x s).setIfInBounds j v = eA x' s) : RdS w (W.setCell ⟨w.heap.size + 2, j, none⟩ v) st x' s := by
  have hne : w.heap.size + 1 ≠ w.heap.size + 2 := by omega
  refine ⟨h.rd.same (Below.heap_setCell _ _ _ _ hne) (h.base.setCell (by simp) _), h.res.other (by omega) _ _, (h.var.set j v).eq he, ?_, ?_⟩
  · rw [hd]
    exact h.gs.kept fun k e => Below.heap_setCell _ _ _ _ (by have := h.gs.ge e; show k ≠ w.heap.size + 2; omega)
  · rw [ha]
    exact h.fs.kept fun k e => Below.heap_setCell _ _ _ _ (by have := h.fs.ge e; show k ≠ w.heap.size + 2; omega)
theorem RdS.pushG {w' : World} (h : RdS w W st x s) {g : PG} {a' : Option Addr} {c' : Nat} (ho : OwnG w' (w.heap.size + 3) a' (x.dels.length + 1) c' (x.dels ++ [g])) (O : Obj) (hb : Below (w.heap.size + 3) (W.alloc O) w') (hg : (W.alloc O).grownBy w' (blkOf s.a)) :
    RdS w (w'.setCell ⟨w.heap.size + 2, 3, none⟩ (.slice a' (x.dels.length + 1) c')) st (x.addG g) ⟨a', c', s.a', s.c'⟩ := by
  have hbig := h.big
  have hb0 : Below (w.heap.size + 3) W w' := ((Below.refl _ _).alloc hbig O).trans hb
  refine ⟨h.rd.same ?_ ((h.base.trans (hb0.mono (by omega))).setCell (by simp) _), ?_, ?_, ?_, ?_⟩
  · rw [Below.heap_setCell _ _ _ _ (by show w.heap.size + 1 ≠ w.heap.size + 2; omega)]
    exact hb0.block _ (by omega)
  · exact (h.res.kept (hb0.block _ (by omega))).other (by omega) _ _
  · have := (h.var.kept (hb0.block _ (by omega))).set 3 (.slice a' (x.dels.length + 1) c')
    refine this.eq ?_
    simp [eA, PE.addG]
  · have := ho.kept (w' := w'.setCell ⟨w.heap.size + 2, 3, none⟩ (.slice a' (x.dels.length + 1) c')) fun k e => Below.heap_setCell _ _ _ _ (by have := ho.ge e; show k ≠ w.heap.size + 2; omega)
    simpa [PE.addG] using this
  · refine h.fs.kept fun k e => ?_
    rw [Below.heap_setCell _ _ _ _ (by have := h.fs.ge e; show k ≠ w.heap.size + 2; omega)]
    rw [(Chg.grown hg).block k (by have := tag_lt (h.fs.tag e); simp; omega) (fun e' => tag_ne (h.gs.tag e') (h.fs.tag e) (by decide) rfl)]
    exact Below.heap_alloc _ _ _ (tag_lt (h.fs.tag e))
theorem RdS.pushF {w' : World} (h : RdS w W st x s) {f : PF} {a' : Option Addr} {c' : Nat} (ho : OwnF w' (w.heap.size + 3) a' (x.adds.length + 1) c' (x.adds ++ [f])) (O : Obj) (hb : Below (w.heap.size + 3) (W.alloc O) w') (hg : (W.alloc O).grownBy w' (blkOf s.a')) :
    RdS w (w'.setCell ⟨w.heap.size + 2, 4, none⟩ (.slice a' (x.adds.length + 1) c')) st (x.addF f) ⟨s.a, s.c, a', c'⟩ := by
  have hbig := h.big
  have hb0 : Below (w.heap.size + 3) W w' := ((Below.refl _ _).alloc hbig O).trans hb
  refine ⟨h.rd.same ?_ ((h.base.trans (hb0.mono (by omega))).setCell (by simp) _), ?_, ?_, ?_, ?_⟩
  · rw [Below.heap_setCell _ _ _ _ (by show w.heap.size + 1 ≠ w.heap.size + 2; omega)]
    exact hb0.block _ (by omega)
  · exact (h.res.kept (hb0.block _ (by omega))).other (by omega) _ _
  · have := (h.var.kept (hb0.block _ (by omega))).set 4 (.slice a' (x.adds.length + 1) c')
    refine this.eq ?_
    simp [eA, PE.addF]
  · refine h.gs.kept fun k e => ?_
    rw [Below.heap_setCell _ _ _ _ (by have := h.gs.ge e; show k ≠ w.heap.size + 2; omega)]
    rw [(Chg.grown hg).block k (by have := tag_lt (h.gs.tag e); simp; omega) (fun e' => tag_ne (h.fs.tag e') (h.gs.tag e) (by decide) rfl)]
    exact Below.heap_alloc _ _ _ (tag_lt (h.gs.tag e))
  · have := ho.kept (w' := w'.setCell ⟨w.heap.size + 2, 4, none⟩ (.slice a' (x.adds.length + 1) c')) fun k e => Below.heap_setCell _ _ _ _ (by have := ho.ge e; show k ≠ w.heap.size + 2; omega)
    simpa [PE.addF] using this
/-- The same, with a file's variable. -/
structure RdF (w W : World) (st : Option (List UInt8)) (x : PE) (s : SE) (fb : Nat) (arr : Array Value) : Prop where
  rs : RdS w W st x s
  bx : Box W fb TF arr
  ge : w.heap.size + 3 ≤ fb
  low : ∀ k, blkOf s.a' = some k → k < fb
variable {fb : Nat} {arr : Array Value}
theorem RdF.turn (h : RdF w W st x s fb arr) (hc : Chg (· = w.heap.size + 1) W W') (ht : Rd w W' (w.heap.size + 1) st') : RdF w W' st' x s fb arr :=
  ⟨h.rs.turn hc ht, h.bx.kept (hc.block _ h.bx.lt (by have := h.ge; omega)), h.ge, h.low⟩
theorem RdF.bad (h : RdF w W st x s fb arr) : RdF w (W.setCell ⟨w.heap.size + 1, 1, none⟩ (.bool true)) none x s fb arr := h.turn h.rs.rd.bad.1 h.rs.rd.bad.2
theorem RdF.set (h : RdF w W st x s fb arr) (j : Nat) (v : Value) : RdF w (W.setCell ⟨fb, j, none⟩ v) st x s fb (arr.setIfInBounds j v) := by
  have hge := h.ge
  have hne : w.heap.size + 1 ≠ fb := by omega
  refine ⟨⟨h.rs.rd.same (Below.heap_setCell _ _ _ _ hne) (h.rs.base.setCell (by show w.heap.size ≤ fb; omega) _), h.rs.res.other (by omega) _ _, h.rs.var.other (by omega) _ _, h.rs.gs.kept fun k e => Below.heap_setCell _ _ _ _ (fun e' => tag_ne (h.rs.gs.tag e) h.bx.tag (by decide) e'), h.rs.fs.kept fun k e => Below.heap_setCell _ _ _ _ (by have := h.low k e; show k ≠ fb; omega)⟩, h.bx.set j v, h.ge, h.low⟩
theorem RdF.eq (h : RdF w W st x s fb arr) {arr' : Array Value} (e : arr = arr') : RdF w W st x s fb arr' := e ▸ h
end
end Go.Proofs.Ytiflepadjcpjjaa
