/- What the document's own Read keeps in memory while it reads. -/
import Derived.Test.YtdhfimolgcnejaaW9Out
import Derived.Test.YtdhfimolgcnejaaRFx
import Derived.Test.YtdhfimolgcnejaaConvInt
namespace Go.Proofs.Ytdhfimolgcnejaa
open Go.RowKit

/-- The records that are whole, below M. -/
structure RdR (w W : World) (M : Nat) (ra : Option Addr) (rc : Nat) (vs : List Value) (rs : List (List UInt8)) : Prop where
  base : Below w.heap.size w W
  low : w.heap.size ≤ M
  high : M ≤ W.heap.size
  row : W.ownsRow w.heap.size TBs 1 (.slice ra rs.length rc) rs.length vs
  recs : ∀ j, j < rs.length → RecAt W w.heap.size M (vs.getD j undef) (rs.getD j [])
variable {w W W' : World} {M : Nat} {ra : Option Addr} {rc : Nat} {vs : List Value} {rs : List (List UInt8)}
theorem RdR.start (w : World) : RdR w w w.heap.size none 0 [] [] := ⟨Below.refl _ _, Nat.le_refl _, Nat.le_refl _, World.ownsRow_nil _ _ _ _, fun _ hj => absurd hj (Nat.not_lt_zero _)⟩
theorem RdR.below (h : RdR w W M ra rc vs rs) (hb : Below W.heap.size W W') : RdR w W' M ra rc vs rs :=
  ⟨h.base.trans (hb.mono h.base.size), h.low, Nat.le_trans h.high hb.size, row_same h.row (fun k e => by obtain ⟨_, arr, ha⟩ := row_block h.row e; exact hb.block k (Array.getElem?_eq_some_iff.1 ha).1),
   fun j hj => (h.recs j hj).same fun k arr _ _ ha => hb.block k (Array.getElem?_eq_some_iff.1 ha).1⟩
theorem RdR.up (h : RdR w W M ra rc vs rs) {M' : Nat} (h1 : M ≤ M') (h2 : M' ≤ W.heap.size) : RdR w W M' ra rc vs rs := ⟨h.base, Nat.le_trans h.low h1, h2, h.row, fun j hj => (h.recs j hj).mono h1⟩
/-- The record that is begun grows. -/
theorem RdR.grown (h : RdR w W M ra rc vs rs) {ca : Option Addr} {n cc : Nat} {cur : List UInt8} (ho : OwnB W M ca n cc cur) (hg : W.grownBy W' (blkOf ca)) : RdR w W' M ra rc vs rs := by
  have hM : ∀ k, k < M → W'.heap[k]? = W.heap[k]? := fun k hk => hg.block k (Nat.lt_of_lt_of_le hk h.high) (fun e => by have := (ho.block e.symm).1; omega)
  refine ⟨h.base.grown hg h.base.size (fun k e => by have := (ho.block e).1; have := h.low; omega), h.low, Nat.le_trans h.high hg.size, row_same h.row (fun k e => ?_), fun j hj => (h.recs j hj).same fun k arr hk _ _ => hM k hk⟩
  obtain ⟨_, arr, ha⟩ := row_block h.row e
  refine hg.block k (Array.getElem?_eq_some_iff.1 ha).1 (fun e' => ?_)
  obtain ⟨_, arr', hb⟩ := ho.block e'.symm
  exact tag_off ha hb (by decide) rfl
/-- A record is told. -/
theorem RdR.pushed (h : RdR w W M ra rc vs rs) {w1 : World} {tmp : Obj} {a' : Option Addr} {n' c' : Nat} {ca : Option Addr} {cc : Nat} {cur : List UInt8} (ho : OwnB W w.heap.size ca cur.length cc cur) (hn : n' = rs.length + 1)
    (hr : w1.ownsRow w.heap.size TBs 1 (.slice a' n' c') n' (vs ++ [.slice ca cur.length cc])) (hg : (W.alloc tmp).grownBy w1 (blkOf ra)) : RdR w w1 w1.heap.size a' c' (vs ++ [.slice ca cur.length cc]) (rs ++ [cur]) := by
  subst hn
  have hgs := hg.size
  have hlow := h.low
  have hhigh := h.high
  have hs1 : W.heap.size < w1.heap.size := by simp at hgs; omega
  have hb8 : ∀ (k : Nat) (arr : Array Value), W.heap[k]? = some (Obj.cells arr 5 (0, 0)) → w1.heap[k]? = W.heap[k]? := fun k arr ha => by
    have hlt := (Array.getElem?_eq_some_iff.1 ha).1
    refine (hg.block k (by simp; omega) (fun e => ?_)).trans (Below.heap_alloc W tmp k hlt)
    obtain ⟨_, arr', hb⟩ := row_block h.row e.symm
    exact tag_off ha hb (by decide) rfl
  refine ⟨(h.base.alloc h.base.size tmp).grown hg (by have := h.base.size; simp; omega) (fun k e => (row_block h.row e).1), by omega, Nat.le_refl _, by rw [List.length_append]; exact hr, fun j hj => ?_⟩
  have hvl : vs.length = rs.length := by simpa using h.row.1
  by_cases hlt : j < rs.length
  · have e1 : (vs ++ [Value.slice ca cur.length cc]).getD j undef = vs.getD j undef := by simp [List.getD, List.getElem?_append_left (show j < vs.length by omega)]
    have e2 : (rs ++ [cur]).getD j [] = rs.getD j [] := by simp [List.getD, List.getElem?_append_left hlt]
    rw [e1, e2]
    exact ((h.recs j hlt).same (fun k arr _ _ ha => hb8 k arr ha)).mono (by omega)
  · obtain rfl : j = rs.length := by simp at hj; omega
    have e1 : (vs ++ [Value.slice ca cur.length cc]).getD rs.length undef = .slice ca cur.length cc := by simp [List.getD, ← hvl]
    have e2 : (rs ++ [cur]).getD rs.length [] = cur := by simp [List.getD]
    rw [e1, e2]
    refine ⟨ca, cc, rfl, ho.same (fun k e => by obtain ⟨_, arr, ha⟩ := ho.block e; exact hb8 k arr ha), fun k e => ?_⟩
    obtain ⟨_, arr, ha⟩ := ho.block e
    exact Nat.lt_trans (Array.getElem?_eq_some_iff.1 ha).1 hs1
/-- What the document's own Read leaves. -/
def RefEnd (w : World) (b : List UInt8) (e : Ending) (w' : World) : Prop :=
  ∃ ra rc, e = .returned (.tuple #[.slice ra (walRead b).1.length rc, .int .i64 ((walRead b).2.1 : Int), .int .i64 ((walRead b).2.2 : Int)]) ∧ OwnRs w' w.heap.size ra (walRead b).1.length rc (walRead b).1 ∧ Below w.heap.size w w'
theorem RdR.fin (h : RdR w W M ra rc vs rs) {b : List UInt8} {sz f : Nat} (hw : walRead b = (rs, sz, f)) {e : Ending} (he : e = .returned (.tuple #[.slice ra rs.length rc, .int .i64 (sz : Int), .int .i64 (f : Int)])) : RefEnd w b e W := by
  unfold RefEnd
  rw [hw]
  exact ⟨ra, rc, he, ⟨rfl, vs, h.row, fun j hj => ⟨M, h.recs j hj⟩⟩, h.base⟩
theorem rfixed_eq {a : Option Addr} {len cap : Nat} {bs : List UInt8} {size : Int} {w : World} (h : BsAt w a len cap bs) {n er : Nat} (hr : fxRead bs size = (n, er)) :
    Calls Try.prog 23 #[.slice a len cap, .int .i64 size] w fun e w' => e = .returned (.tuple #[.int .u64 (n : Nat), .int .i64 (er : Nat)]) ∧ w' = w := by
  have := rfixed_any a len cap bs size w h
  rw [hr] at this
  exact this
/-- Bytes appended to nothing. -/
theorem wpList_appNil (w : World) {ops : Array Oper} {rest : List Oper} {o : Oper} {a : Act} {Q : Exit → Act → World → Prop} (hgd : o.guard = none) (s x : Operand)
    (ho : o.op = .call { callee := .builtin .append, args := #[s, x], argTypes := #[23, 23] })
    (hs : a.eval s = .slice none 0 0) (a2 : Option Addr) (n2 c2 : Nat) (cs : List UInt8) (hx : a.eval x = .slice a2 n2 c2) (hsrc : BsAt w a2 n2 c2 cs) (hl : n2 ≤ 140737488355328)
    (h : ∀ a' c' w', OwnB w' w.heap.size a' n2 c' cs → Below w.heap.size w w' → wpList Try.prog ops Q rest (a.put o.dst (.slice a' n2 c')) w') :
    wpList Try.prog ops Q (o :: rest) a w := by
  refine wpList_app w hgd s x ho w.heap.size none 0 0 [] hs (OwnB.nilAt w _) a2 n2 c2 cs hx hsrc (by omega) (Nat.le_refl _) ?_
  intro a' c' w' h1 h2 _
  rw [Nat.zero_add] at h1 ⊢
  exact h a' c' w' h1 h2
/-- Bytes appended to a slice of the call's own, told by what turned. -/
theorem wpList_appG (w : World) {ops : Array Oper} {rest : List Oper} {o : Oper} {a : Act} {Q : Exit → Act → World → Prop} (hgd : o.guard = none) (s x : Operand)
    (ho : o.op = .call { callee := .builtin .append, args := #[s, x], argTypes := #[23, 23] })
    (B : Nat) (a1 : Option Addr) (n1 c1 : Nat) (bs : List UInt8) (hs : a.eval s = .slice a1 n1 c1) (hown : OwnB w B a1 n1 c1 bs)
    (a2 : Option Addr) (n2 c2 : Nat) (cs : List UInt8) (hx : a.eval x = .slice a2 n2 c2) (hsrc : BsAt w a2 n2 c2 cs) (m : Nat) (hm : n1 + n2 = m)
    (hl : m ≤ 140737488355328) (hB : B ≤ w.heap.size)
    (h : ∀ a' c' w', OwnB w' B a' m c' (bs ++ cs) → w.grownBy w' (blkOf a1) → wpList Try.prog ops Q rest (a.put o.dst (.slice a' m c')) w') :
    wpList Try.prog ops Q (o :: rest) a w := by
  subst hm
  refine wpList_app w hgd s x ho B a1 n1 c1 bs hs hown a2 n2 c2 cs hx hsrc hl hB ?_
  intro a' c' w' h1 _ h3
  exact h a' c' w' h1 (by rw [← own_blk a1 n1 c1]; exact h3)
/-- One slice of bytes appended to a row of such. -/
theorem wpList_push9 (W : World) {ops : Array Oper} {rest : List Oper} {o : Oper} {a : Act} {Q : Exit → Act → World → Prop} (hgd : o.guard = none) (s x : Operand)
    (ho : o.op = .call { callee := .builtin .append, args := #[s, x], argTypes := #[TRows, TRows] })
    (B : Nat) (a1 : Option Addr) (n1 c1 : Nat) (vs : List Value) (hs : a.eval s = .slice a1 n1 c1) (hown : W.ownsRow B TBs 1 (.slice a1 n1 c1) n1 vs)
    (v : Value) (hv : v.oneCell' = true) (hx : a.eval x = .slice (some ⟨W.heap.size, 0, none⟩) 1 1) (hl : n1 + 1 ≤ 5000000000000) (hB : B ≤ W.heap.size)
    (h : ∀ a' c' w', w'.ownsRow B TBs 1 (.slice a' (n1 + 1) c') (n1 + 1) (vs ++ [v]) → (W.alloc (.cells #[v] TBs)).grownBy w' (blkOf a1) → wpList Try.prog ops Q rest (a.put o.dst (.slice a' (n1 + 1) c')) w') :
    wpList Try.prog ops Q (o :: rest) a (W.alloc (.cells #[v] TBs)) := by
  obtain ⟨i, hi, hz0, hz1, hz2⟩ := info_parts infoBs
  refine wpList_append_own _ hgd s x _ ho B TBs i (.slice none 0 0) 1 24 Try.underlying28 hi hz0 hz1 hz2 rfl (by decide) _ n1 vs hs (hown.alloc _) ⟨W.heap.size, 0, none⟩ 1 1 [v] hx rfl ?_ (by simpa using hv) (by unfold maxLen; omega) (by omega) (by simp; omega) ?_
  · intro j u hu
    have hj : j = 0 := by
      have := (List.getElem?_eq_some_iff.1 hu).1
      simp at this
      exact this
    subst hj
    simp at hu
    subst hu
    simp [Addr.add]
  · intro v' w' hr hg _
    rcases hr.2 with ⟨rfl, h0⟩ | ⟨g, c', cur, rfl, _⟩
    · omega
    · exact h _ _ _ hr (by rw [← own_blk a1 n1 c1]; exact hg)
end Go.Proofs.Ytdhfimolgcnejaa
