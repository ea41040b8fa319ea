/- What wal.Read keeps in memory while it reads: its variables, the records, the record that is begun. -/
import Derived.RangeFuncBox
import Derived.Test.YtmlfbihlbiikeaaGreatDoorQa23
namespace Go.Proofs.YtmlfbihlbiikeaaGreatDoor
open Go.RowKit Go.Shelf

theorem row_block {w : World} {B : Nat} {e : TypeId} {size n m c : Nat} {a : Option Addr} {xs : List Value} (h : w.ownsRow B e size (.slice a m c) n xs) {k : Nat} (hk : blkOf a = some k) : B ≤ k ∧ ∃ arr, w.heap[k]? = some (Obj.cells arr e (0, 0)) := by
  rcases h.2 with ⟨hv, _⟩ | ⟨g, c', cur, hv, hb, hg, _⟩
  · simp only [Value.slice.injEq] at hv
    rw [hv.1] at hk
    cases hk
  · simp only [Value.slice.injEq] at hv
    rw [hv.1] at hk
    cases hk
    exact ⟨hb, cur, hg⟩
theorem row_sameA {w w' : World} {B : Nat} {e : TypeId} {size n m c : Nat} {a : Option Addr} {xs : List Value} (h : w.ownsRow B e size (.slice a m c) n xs) (hk : ∀ k, blkOf a = some k → w'.heap[k]? = w.heap[k]?) : w'.ownsRow B e size (.slice a m c) n xs := by
  refine ⟨h.1, ?_⟩
  rcases h.2 with hn | ⟨g, c', cur, hv, hB, hg, rest⟩
  · exact .inl hn
  · refine .inr ⟨g, c', cur, hv, hB, ?_, rest⟩
    simp only [Value.slice.injEq] at hv
    exact (hk g (by rw [hv.1]; rfl)).trans hg
theorem OwnB.same {w w' : World} {B : Nat} {a : Option Addr} {len cap : Nat} {bs : List UInt8} (h : OwnB w B a len cap bs) (hk : ∀ k, blkOf a = some k → w'.heap[k]? = w.heap[k]?) : OwnB w' B a len cap bs := ⟨h.size, row_sameA h.row hk⟩
theorem OwnB.block {w : World} {B : Nat} {a : Option Addr} {len cap : Nat} {bs : List UInt8} (h : OwnB w B a len cap bs) {k : Nat} (hk : blkOf a = some k) : B ≤ k ∧ ∃ arr, w.heap[k]? = some (Obj.cells arr 5 (0, 0)) := row_block h.row hk

abbrev TRows : Nat := 115
abbrev TBs : Nat := 29
def RecAt (W : World) (B M : Nat) (v : Value) (r : List UInt8) : Prop := ∃ a c, v = .slice a r.length c ∧ OwnB W B a r.length c r ∧ ∀ k, blkOf a = some k → k < M
theorem RecAt.same {W W' : World} {B M : Nat} {v : Value} {r : List UInt8} (h : RecAt W B M v r) (hk : ∀ k arr, k < M → B ≤ k → W.heap[k]? = some (Obj.cells arr 5 (0, 0)) → W'.heap[k]? = W.heap[k]?) : RecAt W' B M v r := by
  obtain ⟨a, c, hv, ho, hM⟩ := h
  refine ⟨a, c, hv, ho.same fun k e => ?_, hM⟩
  obtain ⟨h1, arr, h2⟩ := ho.block e
  exact hk k arr (hM k e) h1 h2
theorem RecAt.mono {W : World} {B M M' : Nat} {v : Value} {r : List UInt8} (h : RecAt W B M v r) (hM : M ≤ M') : RecAt W B M' v r := by
  obtain ⟨a, c, hv, ho, hb⟩ := h
  exact ⟨a, c, hv, ho, fun k e => Nat.lt_of_lt_of_le (hb k e) hM⟩

structure Stp (w W W' : World) : Prop where
  kp : Kp3 w.heap.size (w.heap.size + 5) W W'
  ko : KeepsOthers W W'
theorem Stp.trans {w A B C : World} (h : Stp w A B) (k : Stp w B C) : Stp w A C := ⟨h.kp.trans k.kp, h.ko.trans k.ko⟩
theorem Stp.of {w W W' : World} (h : Below W.heap.size W W') (hs : w.heap.size + 6 ≤ W.heap.size) : Stp w W W' :=
  ⟨Kp3.of h (by omega) (by omega), ⟨h.size, fun k o hk _ => (h.block k (Array.getElem?_eq_some_iff.1 hk).1).trans hk⟩⟩
theorem Stp.set {w W : World} {p : Nat} {arr : Array Value} {t : TypeId} (h : W.heap[p]? = some (Obj.cells arr t (0, 0))) (hw : w.heap.size ≤ p) (hb : p ≠ w.heap.size + 5) (ht : t ≠ 155) (v : Value) : Stp w W (W.setCell ⟨p, 0, none⟩ v) :=
  ⟨⟨(Below.refl _ _).setCell hw _, KeepT.set h (fun arr' fz e => by simp at e; exact ht e.2.1) 0 v, Below.heap_setCell _ _ _ _ (fun e => hb e.symm)⟩, KeepsOthers.setCell _ _ _⟩
theorem Stp.grown {w W W' : World} {row : Option Nat} (h : W.grownBy W' row) (hs : w.heap.size + 6 ≤ W.heap.size) (hr : ∀ r, row = some r → w.heap.size + 6 ≤ r ∧ ∃ arr t, W.heap[r]? = some (Obj.cells arr t (0, 0)) ∧ t ≠ 155) : Stp w W W' := by
  refine ⟨⟨(Below.refl _ _).grown h (by omega) (fun k e => by have := (hr k e).1; omega), KeepT.grown h (fun r e arr fz hk => ?_), h.block _ (by omega) (fun e => by have := (hr _ e.symm).1; omega)⟩, KeepsOthers.of_grownBy h (fun j o e hj => ?_)⟩
  · obtain ⟨_, arr', t, h1, h2⟩ := hr r e
    rw [h1] at hk
    simp at hk
    exact h2 hk.2.1
  · obtain ⟨_, arr', t, h1, h2⟩ := hr j e
    rw [h1] at hj
    cases hj
    rfl

structure RdM (w W : World) (M : Nat) (ra : Option Addr) (rc : Nat) (vs : List Value) (ca : Option Addr) (cc : Nat) (bg : Bool) (cur : List UInt8) (rs : List (List UInt8)) (size en : Nat) : Prop where
  base : Below w.heap.size w W
  low : w.heap.size + 6 ≤ M
  high : M ≤ W.heap.size
  x0 : Boxed W w.heap.size TRows (.slice ra rs.length rc)
  x1 : Boxed W (w.heap.size + 1) 3 (.int .i64 (size : Int))
  x2 : Boxed W (w.heap.size + 2) 3 (.int .i64 (en : Int))
  x3 : Boxed W (w.heap.size + 3) TBs (.slice ca cur.length cc)
  x4 : Boxed W (w.heap.size + 4) 4 (.bool bg)
  row : W.ownsRow (w.heap.size + 6) TBs 1 (.slice ra rs.length rc) rs.length vs
  recs : ∀ j, j < rs.length → RecAt W (w.heap.size + 6) M (vs.getD j undef) (rs.getD j [])
  own : OwnB W M ca cur.length cc cur
variable {w W W' : World} {M : Nat} {ra : Option Addr} {rc : Nat} {vs : List Value} {ca : Option Addr} {cc : Nat} {bg : Bool} {cur : List UInt8} {rs : List (List UInt8)} {size en : Nat}
theorem RdM.big (h : RdM w W M ra rc vs ca cc bg cur rs size en) : w.heap.size + 6 ≤ W.heap.size := Nat.le_trans h.low h.high
theorem RdM.keep (h : RdM w W M ra rc vs ca cc bg cur rs size en) (hb : Below w.heap.size w W') (hs : W.heap.size ≤ W'.heap.size) (hk : ∀ (k : Nat) (arr : Array Value) (t : TypeId), W.heap[k]? = some (Obj.cells arr t (0, 0)) → W'.heap[k]? = W.heap[k]?) : RdM w W' M ra rc vs ca cc bg cur rs size en :=
  ⟨hb, h.low, Nat.le_trans h.high hs, (hk _ _ _ h.x0).trans h.x0, (hk _ _ _ h.x1).trans h.x1, (hk _ _ _ h.x2).trans h.x2, (hk _ _ _ h.x3).trans h.x3, (hk _ _ _ h.x4).trans h.x4,
   row_sameA h.row (fun k e => by obtain ⟨_, arr, ha⟩ := row_block h.row e; exact hk k arr _ ha), fun j hj => (h.recs j hj).same fun k arr _ _ ha => hk k arr _ ha,
   h.own.same (fun k e => by obtain ⟨_, arr, ha⟩ := h.own.block e; exact hk k arr _ ha)⟩
theorem RdM.below (h : RdM w W M ra rc vs ca cc bg cur rs size en) (hb : Below W.heap.size W W') : RdM w W' M ra rc vs ca cc bg cur rs size en :=
  h.keep (h.base.trans (hb.mono h.base.size)) hb.size (fun k _ _ hk => hb.block k (Array.getElem?_eq_some_iff.1 hk).1)
theorem RdM.setBox (h : RdM w W M ra rc vs ca cc bg cur rs size en) {p : Nat} (hp : w.heap.size ≤ p) (hp6 : p < w.heap.size + 6) (v : Value) :
    Below w.heap.size w (W.setCell ⟨p, 0, none⟩ v) ∧ M ≤ (W.setCell ⟨p, 0, none⟩ v).heap.size ∧ (∀ k, k ≠ p → (W.setCell ⟨p, 0, none⟩ v).heap[k]? = W.heap[k]?) ∧
    (W.setCell ⟨p, 0, none⟩ v).ownsRow (w.heap.size + 6) TBs 1 (.slice ra rs.length rc) rs.length vs ∧ (∀ j, j < rs.length → RecAt (W.setCell ⟨p, 0, none⟩ v) (w.heap.size + 6) M (vs.getD j undef) (rs.getD j [])) ∧ OwnB (W.setCell ⟨p, 0, none⟩ v) M ca cur.length cc cur := by
  have hk : ∀ k, k ≠ p → (W.setCell ⟨p, 0, none⟩ v).heap[k]? = W.heap[k]? := fun k hn => Below.heap_setCell _ _ _ k hn
  have hl := h.low
  refine ⟨h.base.setCell hp _, by simpa using h.high, hk, row_sameA h.row (fun k e => hk k ?_), fun j hj => (h.recs j hj).same (fun k arr _ hb _ => hk k ?_), h.own.same (fun k e => hk k ?_)⟩
  · have := (row_block h.row e).1
    omega
  · omega
  · have := (h.own.block e).1
    omega
theorem RdM.setSize (h : RdM w W M ra rc vs ca cc bg cur rs size en) (s : Nat) : RdM w (W.setCell ⟨w.heap.size + 1, 0, none⟩ (.int .i64 (s : Int))) M ra rc vs ca cc bg cur rs s en ∧ Stp w W (W.setCell ⟨w.heap.size + 1, 0, none⟩ (.int .i64 (s : Int))) := by
  obtain ⟨h1, h2, h3, h4, h5, h6⟩ := h.setBox (p := w.heap.size + 1) (by omega) (by omega) (.int .i64 (s : Int))
  exact ⟨⟨h1, h.low, h2, (h3 _ (by omega)).trans h.x0, h.x1.set _, (h3 _ (by omega)).trans h.x2, (h3 _ (by omega)).trans h.x3, (h3 _ (by omega)).trans h.x4, h4, h5, h6⟩, Stp.set h.x1 (by omega) (by omega) (by decide) _⟩
theorem RdM.setEnd (h : RdM w W M ra rc vs ca cc bg cur rs size en) (s : Nat) : RdM w (W.setCell ⟨w.heap.size + 2, 0, none⟩ (.int .i64 (s : Int))) M ra rc vs ca cc bg cur rs size s ∧ Stp w W (W.setCell ⟨w.heap.size + 2, 0, none⟩ (.int .i64 (s : Int))) := by
  obtain ⟨h1, h2, h3, h4, h5, h6⟩ := h.setBox (p := w.heap.size + 2) (by omega) (by omega) (.int .i64 (s : Int))
  exact ⟨⟨h1, h.low, h2, (h3 _ (by omega)).trans h.x0, (h3 _ (by omega)).trans h.x1, h.x2.set _, (h3 _ (by omega)).trans h.x3, (h3 _ (by omega)).trans h.x4, h4, h5, h6⟩, Stp.set h.x2 (by omega) (by omega) (by decide) _⟩
theorem RdM.setBegun (h : RdM w W M ra rc vs ca cc bg cur rs size en) (s : Bool) : RdM w (W.setCell ⟨w.heap.size + 4, 0, none⟩ (.bool s)) M ra rc vs ca cc s cur rs size en ∧ Stp w W (W.setCell ⟨w.heap.size + 4, 0, none⟩ (.bool s)) := by
  obtain ⟨h1, h2, h3, h4, h5, h6⟩ := h.setBox (p := w.heap.size + 4) (by omega) (by omega) (.bool s)
  exact ⟨⟨h1, h.low, h2, (h3 _ (by omega)).trans h.x0, (h3 _ (by omega)).trans h.x1, (h3 _ (by omega)).trans h.x2, (h3 _ (by omega)).trans h.x3, h.x4.set _, h4, h5, h6⟩, Stp.set h.x4 (by omega) (by omega) (by decide) _⟩
theorem tag_off {W : World} {k r : Nat} {arr arr' : Array Value} {t t' : TypeId} (h : W.heap[k]? = some (Obj.cells arr t (0, 0))) (h' : W.heap[r]? = some (Obj.cells arr' t' (0, 0))) (ht : t ≠ t') : some k ≠ some r := by
  rintro e
  cases e
  rw [h] at h'
  simp at h'
  exact ht h'.2
theorem RdM.appended (h : RdM w W M ra rc vs ca cc bg cur rs size en) {w1 : World} {a' : Option Addr} {n' c' : Nat} {cur' : List UInt8} (hn : n' = cur'.length) (ho : OwnB w1 M a' n' c' cur') (hg : W.grownBy w1 (blkOf ca)) :
    w1.cell? ⟨w.heap.size + 3, 0, none⟩ = some (.slice ca cur.length cc) ∧ w1.frozen? ⟨w.heap.size + 3, 0, none⟩ = false ∧ RdM w (w1.setCell ⟨w.heap.size + 3, 0, none⟩ (.slice a' n' c')) M ra rc vs a' c' bg cur' rs size en ∧ Stp w W (w1.setCell ⟨w.heap.size + 3, 0, none⟩ (.slice a' n' c')) := by
  subst hn
  have hl := h.low
  have hM : ∀ k, k < M → w1.heap[k]? = W.heap[k]? := fun k hk => hg.block k (Nat.lt_of_lt_of_le hk h.high) (fun e => by have := (h.own.block e.symm).1; omega)
  have x3 : Boxed w1 (w.heap.size + 3) TBs (.slice ca cur.length cc) := (hM _ (by omega)).trans h.x3
  have hb1 : Below w.heap.size w w1 := h.base.grown hg h.base.size (fun k e => by have := (h.own.block e).1; omega)
  have hrow : w1.ownsRow (w.heap.size + 6) TBs 1 (.slice ra rs.length rc) rs.length vs := row_sameA h.row (fun k e => by
    obtain ⟨_, arr, ha⟩ := row_block h.row e
    refine hg.block k (Array.getElem?_eq_some_iff.1 ha).1 (fun e' => ?_)
    obtain ⟨_, arr', hb⟩ := h.own.block e'.symm
    exact tag_off ha hb (by decide) rfl)
  have hset : ∀ k, k ≠ w.heap.size + 3 → (w1.setCell ⟨w.heap.size + 3, 0, none⟩ (.slice a' cur'.length c')).heap[k]? = w1.heap[k]? := fun k hk => Below.heap_setCell _ _ _ k hk
  refine ⟨x3.cell, x3.frozen, ⟨hb1.setCell (by simp) _, h.low, by have := h.high; have := hg.size; simp; omega, ?_, ?_, ?_, x3.set _, ?_, ?_, ?_, ?_⟩, ?_⟩
  · exact (hset _ (by omega)).trans ((hM _ (by omega)).trans h.x0)
  · exact (hset _ (by omega)).trans ((hM _ (by omega)).trans h.x1)
  · exact (hset _ (by omega)).trans ((hM _ (by omega)).trans h.x2)
  · exact (hset _ (by omega)).trans ((hM _ (by omega)).trans h.x4)
  · exact row_sameA hrow (fun k e => hset k (by have := (row_block hrow e).1; omega))
  · exact fun j hj => (h.recs j hj).same (fun k arr hk hk6 _ => (hset k (by omega)).trans (hM k hk))
  · exact ho.same (fun k e => hset k (by have := (ho.block e).1; omega))
  · refine (Stp.grown hg h.big (fun r e => ?_)).trans (Stp.set x3 (by omega) (by omega) (by decide) _)
    obtain ⟨h2, arr, ha⟩ := h.own.block e
    exact ⟨by omega, arr, _, ha, by decide⟩
theorem RdM.pushed (h : RdM w W M ra rc vs ca cc bg cur rs size en) {w1 : World} {tmp : Obj} {a' : Option Addr} {n' c' : Nat} (hn : n' = rs.length + 1) (hr : w1.ownsRow (w.heap.size + 6) TBs 1 (.slice a' n' c') n' (vs ++ [.slice ca cur.length cc])) (hg : (W.alloc tmp).grownBy w1 (blkOf ra)) :
    w1.cell? ⟨w.heap.size, 0, none⟩ = some (.slice ra rs.length rc) ∧ w1.frozen? ⟨w.heap.size, 0, none⟩ = false ∧
    (w1.setCell ⟨w.heap.size, 0, none⟩ (.slice a' n' c')).cell? ⟨w.heap.size + 3, 0, none⟩ = some (.slice ca cur.length cc) ∧ (w1.setCell ⟨w.heap.size, 0, none⟩ (.slice a' n' c')).frozen? ⟨w.heap.size + 3, 0, none⟩ = false ∧
    RdM w ((w1.setCell ⟨w.heap.size, 0, none⟩ (.slice a' n' c')).setCell ⟨w.heap.size + 3, 0, none⟩ (.slice none 0 0)) w1.heap.size a' c' (vs ++ [.slice ca cur.length cc]) none 0 bg [] (rs ++ [cur]) size en ∧
    Stp w W ((w1.setCell ⟨w.heap.size, 0, none⟩ (.slice a' n' c')).setCell ⟨w.heap.size + 3, 0, none⟩ (.slice none 0 0)) := by
  subst hn
  have hl := h.low
  have hh := h.high
  have hgs := hg.size
  have hk : ∀ k, k < W.heap.size → blkOf ra ≠ some k → w1.heap[k]? = W.heap[k]? := fun k hk hne => (hg.block k (by simp; omega) (fun e => hne e.symm)).trans (Below.heap_alloc W tmp k hk)
  have hra : ∀ k, blkOf ra = some k → w.heap.size + 6 ≤ k := fun k e => (row_block h.row e).1
  have hbox : ∀ k, k < w.heap.size + 6 → w1.heap[k]? = W.heap[k]? := fun k hlt => hk k (by omega) (fun e => by have := hra k e; omega)
  have hb8 : ∀ k arr, W.heap[k]? = some (Obj.cells arr 5 (0, 0)) → w1.heap[k]? = W.heap[k]? := fun k arr ha => hk k (Array.getElem?_eq_some_iff.1 ha).1 (fun e => by
    obtain ⟨_, arr', hb⟩ := row_block h.row e
    exact tag_off ha hb (by decide) rfl)
  have x0 : Boxed w1 w.heap.size TRows (.slice ra rs.length rc) := (hbox _ (by omega)).trans h.x0
  have x3 : Boxed w1 (w.heap.size + 3) TBs (.slice ca cur.length cc) := (hbox _ (by omega)).trans h.x3
  obtain ⟨W2, hW2⟩ : ∃ W2, w1.setCell ⟨w.heap.size, 0, none⟩ (.slice a' (rs.length + 1) c') = W2 := ⟨_, rfl⟩
  obtain ⟨W3, hW3⟩ : ∃ W3, W2.setCell ⟨w.heap.size + 3, 0, none⟩ (.slice none 0 0) = W3 := ⟨_, rfl⟩
  have s2 : ∀ k, k ≠ w.heap.size → W2.heap[k]? = w1.heap[k]? := fun k hne => by rw [← hW2]; exact Below.heap_setCell _ _ _ k hne
  have s3 : ∀ k, k ≠ w.heap.size + 3 → W3.heap[k]? = W2.heap[k]? := fun k hne => by rw [← hW3]; exact Below.heap_setCell _ _ _ k hne
  have y0 : Boxed W2 w.heap.size TRows (.slice a' (rs.length + 1) c') := by rw [← hW2]; exact x0.set _
  have y3 : Boxed W2 (w.heap.size + 3) TBs (.slice ca cur.length cc) := (s2 _ (by omega)).trans x3
  have z3 : Boxed W3 (w.heap.size + 3) TBs (.slice none 0 0) := by rw [← hW3]; exact y3.set _
  have sz3 : W3.heap.size = w1.heap.size := by rw [← hW3, ← hW2]; simp
  have hs1 : W.heap.size < w1.heap.size := by simp at hgs; omega
  have hb1 : Below w.heap.size w w1 := (h.base.alloc h.base.size tmp).grown hg (by have := h.base.size; simp; omega) (fun k e => by have := hra k e; omega)
  rw [hW2, hW3]
  have hrec : ∀ {v : Value} {r : List UInt8} {N : Nat}, RecAt W (w.heap.size + 6) N v r → RecAt W3 (w.heap.size + 6) N v r := fun hr => hr.same (fun k arr _ h6 ha => (s3 k (by omega)).trans ((s2 k (by omega)).trans (hb8 k arr ha)))
  refine ⟨x0.cell, x0.frozen, y3.cell, y3.frozen, ⟨?_, by omega, by omega, ?_, ?_, ?_, z3, ?_, ?_, ?_, ?_⟩, ?_⟩
  · rw [← hW3, ← hW2]
    exact (hb1.setCell (Nat.le_refl _) _).setCell (by simp) _
  · rw [List.length_append]
    exact (s3 _ (by omega)).trans y0
  · exact (s3 _ (by omega)).trans ((s2 _ (by omega)).trans ((hbox _ (by omega)).trans h.x1))
  · exact (s3 _ (by omega)).trans ((s2 _ (by omega)).trans ((hbox _ (by omega)).trans h.x2))
  · exact (s3 _ (by omega)).trans ((s2 _ (by omega)).trans ((hbox _ (by omega)).trans h.x4))
  · rw [List.length_append]
    exact row_sameA hr (fun k e => (s3 k (by have := (row_block hr e).1; omega)).trans (s2 k (by have := (row_block hr e).1; omega)))
  · intro j hj
    have hvl : vs.length = rs.length := by simpa using h.row.1
    by_cases hlt : j < rs.length
    · have e1 : (vs ++ [Value.slice ca cur.length cc]).getD j undef = vs.getD j undef := by simp [List.getD, List.getElem?_append_left (show j < vs.length by omega)]
      have e2 : (rs ++ [cur]).getD j [] = rs.getD j [] := by simp [List.getD, List.getElem?_append_left hlt]
      rw [e1, e2]
      exact (hrec (h.recs j hlt)).mono (by omega)
    · obtain rfl : j = rs.length := by simp at hj; omega
      have e1 : (vs ++ [Value.slice ca cur.length cc]).getD rs.length undef = .slice ca cur.length cc := by simp [List.getD, ← hvl]
      have e2 : (rs ++ [cur]).getD rs.length [] = cur := by simp [List.getD]
      rw [e1, e2]
      refine hrec ⟨ca, cc, rfl, h.own.mono hl, fun k e => ?_⟩
      obtain ⟨_, arr, ha⟩ := h.own.block e
      exact Nat.lt_trans (Array.getElem?_eq_some_iff.1 ha).1 hs1
  · exact ⟨rfl, World.ownsRow_nil _ _ _ _⟩
  · rw [← hW3, ← hW2]
    refine (((Stp.of ((Below.refl _ W).alloc (Nat.le_refl _) tmp) h.big).trans (Stp.grown hg (by simp; omega) (fun r e => ?_))).trans (Stp.set x0 (Nat.le_refl _) (by omega) (by decide) _)).trans (Stp.set (by rw [hW2]; exact y3) (by omega) (by omega) (by decide) _)
    obtain ⟨h6, arr, ha⟩ := row_block h.row e
    exact ⟨h6, arr, _, (Below.heap_alloc W tmp r (Array.getElem?_eq_some_iff.1 ha).1).trans ha, by decide⟩
end Go.Proofs.YtmlfbihlbiikeaaGreatDoor
namespace Go.Proofs.YtmlfbihlbiikeaaGreatDoor
open Go.RowKit Go.Shelf

set_option maxHeartbeats 400000 in
theorem begins_any (k : UInt8) (a : Option Addr) (n c : Nat) (z : Int) (w : World) :
    Calls Tryz.prog 88 #[.agg #[.int .u8 (k.toNat : Int), .slice a n c, .int .i64 z]] w fun e w' => e = .returned (.bool (decide (k.toNat = 1 ∨ k.toNat = 2))) ∧ Below w.heap.size w w' := by
  by_cases h1 : k.toNat = 1
  · have hb : ((k.toNat : Int) == 1) = true := by simp; omega
    have HD : Hid (decide (k.toNat = 1 ∨ k.toNat = 2) = true) := by unfold Hid; simp [h1]
    clear h1
    go_enter Tryz.func88, Tryz.ntmps88
    go_wp2
    go_ret
    exact ⟨ret1 (by rw [HD.out]; rfl), (Below.refl _ _).alloc (Nat.le_refl _) _⟩
  · have hb : ((k.toNat : Int) == 1) = false := by simp; omega
    have HD : Hid (decide (k.toNat = 1 ∨ k.toNat = 2) = ((k.toNat : Int) == 2)) := by
      unfold Hid
      by_cases h2 : k.toNat = 2
      · rw [h2]; rfl
      · rw [decide_eq_false (by omega)]
        symm
        simp
        omega
    clear h1
    go_enter Tryz.func88, Tryz.ntmps88
    go_wp2
    go_ret
    exact ⟨ret1 (by rw [HD.out]; rfl), (Below.refl _ _).alloc (Nat.le_refl _) _⟩
set_option maxHeartbeats 400000 in
theorem ends_any (k : UInt8) (a : Option Addr) (n c : Nat) (z : Int) (w : World) :
    Calls Tryz.prog 89 #[.agg #[.int .u8 (k.toNat : Int), .slice a n c, .int .i64 z]] w fun e w' => e = .returned (.bool (decide (k.toNat = 1 ∨ k.toNat = 4))) ∧ Below w.heap.size w w' := by
  by_cases h1 : k.toNat = 1
  · have hb : ((k.toNat : Int) == 1) = true := by simp; omega
    have HD : Hid (decide (k.toNat = 1 ∨ k.toNat = 4) = true) := by unfold Hid; simp [h1]
    clear h1
    go_enter Tryz.func89, Tryz.ntmps89
    go_wp2
    go_ret
    exact ⟨ret1 (by rw [HD.out]; rfl), (Below.refl _ _).alloc (Nat.le_refl _) _⟩
  · have hb : ((k.toNat : Int) == 1) = false := by simp; omega
    have HD : Hid (decide (k.toNat = 1 ∨ k.toNat = 4) = ((k.toNat : Int) == 4)) := by
      unfold Hid
      by_cases h2 : k.toNat = 4
      · rw [h2]; rfl
      · rw [decide_eq_false (by omega)]
        symm
        simp
        omega
    clear h1
    go_enter Tryz.func89, Tryz.ntmps89
    go_wp2
    go_ret
    exact ⟨ret1 (by rw [HD.out]; rfl), (Below.refl _ _).alloc (Nat.le_refl _) _⟩

theorem begins_eq (k : UInt8) (t : Bool) (ht : decide (k.toNat = 1 ∨ k.toNat = 2) = t) (a : Option Addr) (n c : Nat) (z : Int) (w : World) :
    Calls Tryz.prog 88 #[.agg #[.int .u8 (k.toNat : Int), .slice a n c, .int .i64 z]] w fun e w' => e = .returned (.bool t) ∧ Below w.heap.size w w' := by
  subst ht
  exact begins_any k a n c z w
theorem ends_eq (k : UInt8) (t : Bool) (ht : decide (k.toNat = 1 ∨ k.toNat = 4) = t) (a : Option Addr) (n c : Nat) (z : Int) (w : World) :
    Calls Tryz.prog 89 #[.agg #[.int .u8 (k.toNat : Int), .slice a n c, .int .i64 z]] w fun e w' => e = .returned (.bool t) ∧ Below w.heap.size w w' := by
  subst ht
  exact ends_any k a n c z w
theorem wpListIn_app {F : Fence} {n : Nat} (w : World) {ops : Array Oper} {rest : List Oper} {o : Oper} {a : Act} {Q : Exit → Act → World → Prop} (hgd : o.guard = none) (s x : Operand)
    (ho : o.op = .call { callee := .builtin .append, args := #[s, x], argTypes := #[29, 29] })
    (B : Nat) (a1 : Option Addr) (n1 c1 : Nat) (bs : List UInt8) (hs : a.eval s = .slice a1 n1 c1) (hown : OwnB w B a1 n1 c1 bs)
    (a2 : Option Addr) (n2 c2 : Nat) (cs : List UInt8) (hx : a.eval x = .slice a2 n2 c2) (hsrc : BsAt w a2 n2 c2 cs)
    (hl : n1 + n2 ≤ 140737488355328) (hB : B ≤ w.heap.size)
    (h : ∀ a' c' w', OwnB w' B a' (n1 + n2) c' (bs ++ cs) → w.grownBy w' (blkOf a1) → wpListIn F n Tryz.prog ops Q rest (a.put o.dst (.slice a' (n1 + n2) c')) w') :
    wpListIn F n Tryz.prog ops Q (o :: rest) a w := by
  obtain ⟨i, hi, hz0, hz1, hz2⟩ := info_parts infoU8
  have hsz := hsrc.size
  have fin : ∀ v' w', w'.ownsRow B 5 1 v' (n1 + n2) (cellsB bs ++ cellsB cs) → w.grownBy w' (Value.slice a1 n1 c1).ownBlock → wpListIn F n Tryz.prog ops Q rest (a.put o.dst v') w' := by
    intro v' w' hr hg
    rw [← cellsB_append] at hr
    obtain ⟨a', c', rfl, ho'⟩ := own_of_row hr
    exact h a' c' w' ho' (by rw [← own_blk a1 n1 c1]; exact hg)
  cases a2 with
  | none =>
    have hc0 := hsrc.bare rfl
    have hle := hsrc.le
    obtain rfl : n2 = 0 := by omega
    subst hc0
    obtain rfl := List.eq_nil_of_length_eq_zero hsz
    have hrun := run_append_owned_none (P := Tryz.prog) (w := w) B 29 o.type 5 i 1 Tryz.underlying29 hi _ n1 _ hown.row
    refine wpListIn_plain hgd fun K hK' => ?_
    unfold Oper.wpIn
    refine ⟨?_, ?_⟩
    · simp [Oper.about, ho, resolve, Target.leads, Sem.run_pure]
    · rw [Oper.semAt_plain F _ _ (by rw [ho]; intro c hc'; cases hc')]
      simp [execOp, ho, resolve, invoke, builtin, hs, hx, hrun, Result.andThen]
      exact hK' _ _ (fin _ w (by simpa [cellsB] using hown.row) (World.grownBy.refl _ _))
  | some ad =>
    have hcell : ∀ j u, (cellsB cs)[j]? = some u → w.cell? (ad.add j) = some u := by
      intro j u hu
      have hj : j < cs.length := by have := (List.getElem?_eq_some_iff.1 hu).1; rwa [cellsB_length] at this
      obtain ⟨b, off, he, hc⟩ := hsrc.here (by omega)
      obtain rfl := Option.some.inj he
      rw [cellsB_get cs j hj] at hu
      obtain rfl := Option.some.inj hu
      rw [Addr.add_lit]
      exact hc j (by omega)
    exact wpListIn_append_own w hgd s x _ ho B 5 i (.int .u8 0) 1 1 Tryz.underlying29 hi hz0 hz1 hz2 rfl (by decide) _ n1 _ hs hown.row ad n2 c2 (cellsB cs) hx (by rw [cellsB_length]; omega) hcell (cellsB_one cs) (by unfold maxLen; omega) (by omega) hB
      (fun v' w' hr hg _ => fin v' w' hr hg)
theorem infoBs : (Tryz.prog.info? TBs).map (fun i => (i.zero, i.size, i.bytes)) = some (some (.slice none 0 0), 1, 24) := by kernel_rfl
theorem wpListIn_push {F : Fence} {n : Nat} (W : World) {ops : Array Oper} {rest : List Oper} {o : Oper} {a : Act} {Q : Exit → Act → World → Prop} (hgd : o.guard = none) (s x : Operand)
    (ho : o.op = .call { callee := .builtin .append, args := #[s, x], argTypes := #[TRows, TRows] })
    (B : Nat) (a1 : Option Addr) (n1 c1 : Nat) (vs : List Value) (hs : a.eval s = .slice a1 n1 c1) (hown : W.ownsRow B TBs 1 (.slice a1 n1 c1) n1 vs)
    (v : Value) (hv : v.oneCell' = true) (hx : a.eval x = .slice (some ⟨W.heap.size, 0, none⟩) 1 1) (hl : n1 + 1 ≤ 5000000000000) (hB : B ≤ W.heap.size)
    (h : ∀ a' c' w', w'.ownsRow B TBs 1 (.slice a' (n1 + 1) c') (n1 + 1) (vs ++ [v]) → (W.alloc (.cells #[v] TBs)).grownBy w' (blkOf a1) → wpListIn F n Tryz.prog ops Q rest (a.put o.dst (.slice a' (n1 + 1) c')) w') :
    wpListIn F n Tryz.prog ops Q (o :: rest) a (W.alloc (.cells #[v] TBs)) := by
  obtain ⟨i, hi, hz0, hz1, hz2⟩ := info_parts infoBs
  refine wpListIn_append_own _ hgd s x _ ho B TBs i (.slice none 0 0) 1 24 Tryz.underlying115 hi hz0 hz1 hz2 rfl (by decide) _ n1 vs hs (hown.alloc _) ⟨W.heap.size, 0, none⟩ 1 1 [v] hx rfl ?_ (by simpa using hv) (by unfold maxLen; omega) (by omega) (by simp; omega) ?_
  · intro j u hu
    have hj : j = 0 := by
      have := (List.getElem?_eq_some_iff.1 hu).1
      simp at this
      exact this
    subst hj
    simp at hu
    subst hu
    simp [Addr.add]
  · intro v' w' hr hg _
    rcases hr.2 with ⟨rfl, h0⟩ | ⟨g, c', cur, rfl, _⟩
    · omega
    · exact h _ _ _ hr (by rw [← own_blk a1 n1 c1]; exact hg)

structure OwnRs (W : World) (B : Nat) (a : Option Addr) (len cap : Nat) (rs : List (List UInt8)) : Prop where
  size : rs.length = len
  rows : ∃ vs, W.ownsRow B TBs 1 (.slice a len cap) len vs ∧ ∀ j, j < len → ∃ M, RecAt W B M (vs.getD j undef) (rs.getD j [])
structure RsAt (w : World) (a : Option Addr) (len cap : Nat) (rs : List (List UInt8)) : Prop where
  size : rs.length = len
  le : len ≤ cap
  max : cap ≤ maxLen
  bare : a = none → cap = 0
  here : 0 < len → ∃ b off, a = some ⟨b, off, none⟩ ∧ ∀ j, j < len → ∃ aj cj, w.cell? ⟨b, off + j, none⟩ = some (.slice aj (rs.getD j []).length cj) ∧ BsAt w aj (rs.getD j []).length cj (rs.getD j [])
theorem RsAt.below {B : Nat} {w w' : World} {a : Option Addr} {len cap : Nat} {rs : List (List UInt8)} (h : RsAt w a len cap rs) (hB : w.heap.size ≤ B) (hb : Below B w w') : RsAt w' a len cap rs :=
  ⟨h.size, h.le, h.max, h.bare, fun hp => by
    obtain ⟨b, off, ha, hc⟩ := h.here hp
    refine ⟨b, off, ha, fun j hj => ?_⟩
    obtain ⟨aj, cj, h1, h2⟩ := hc j hj
    refine ⟨aj, cj, ?_, h2.below hB hb⟩
    rw [hb.cell (Nat.lt_of_lt_of_le (World.block_lt_of_cell? w _ h1) hB)]
    exact h1⟩
theorem OwnRs.rs {W : World} {B : Nat} {a : Option Addr} {len cap : Nat} {rs : List (List UInt8)} (h : OwnRs W B a len cap rs) : RsAt W a len cap rs := by
  obtain ⟨vs, hr, hj⟩ := h.rows
  have hvl : vs.length = len := by simpa using hr.1
  rcases hr.2 with ⟨hv, hn⟩ | ⟨g, c, cur, hv, hb, hg, hn, hc, hz, ht⟩
  · simp only [Value.slice.injEq] at hv
    obtain ⟨rfl, rfl, rfl⟩ := hv
    exact ⟨h.size, Nat.le_refl _, Nat.zero_le _, fun _ => rfl, fun h0 => absurd h0 (Nat.lt_irrefl _)⟩
  · simp only [Value.slice.injEq, true_and] at hv
    obtain ⟨rfl, rfl⟩ := hv
    refine ⟨h.size, hn, hc, fun h0 => by simp at h0, fun _ => ⟨g, 0, rfl, fun j hjl => ?_⟩⟩
    obtain ⟨M, aj, cj, e, ho, _⟩ := hj j hjl
    refine ⟨aj, cj, ?_, ho.bs⟩
    rw [Nat.zero_add, hr.cellAt j (by omega), ← e]
    simp [List.getD, hvl, hjl]
end Go.Proofs.YtmlfbihlbiikeaaGreatDoor
