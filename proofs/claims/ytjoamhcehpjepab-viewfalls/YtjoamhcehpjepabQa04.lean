/- The contract of the document's own All. -/
import Derived.Test.YtjoamhcehpjepabQa03
import Derived.Deep.DeepCutAuto
import Derived.WalkSmall
import Derived.Deep.RegionHeld3
import Derived.BigQuiet
namespace Go.Proofs.Ytjoamhcehpjepab
open Go.RowKit
set_option linter.unusedVariables false
set_option linter.unusedSimpArgs false
def slLen16 : Value → Nat
  | .slice _ n _ => n
  | _ => 0
def encI : Option Nat → Int
  | none => -1
  | some b => (b : Int)
/-- What All keeps: its row of numbers, what it has. -/
structure Al (w W : World) (L : List (List KV)) (v : Nat → Nat) (n : Nat) (a' : Option Addr) (m c' : Nat) : Prop where
  low : Below w.heap.size w W
  box : Box W w.heap.size 3 (atA v n)
  own : OwnK W (w.heap.size + 1) a' m c' ((allL L).take m)
  cut : CutL L v
  sum : sumV v n = m
theorem Al.below {w W W' : World} {L : List (List KV)} {v : Nat → Nat} {n : Nat} {a' : Option Addr} {m c' : Nat} (h : Al w W L v n a' m c') (hb : Below W.heap.size W W') : Al w W' L v n a' m c' :=
  ⟨h.low.trans (hb.mono h.low.size), h.box.kept (hb.block _ h.box.lt), h.own.below hb, h.cut, h.sum⟩
theorem rowL_at {L : List (List KV)} {i j : Nat} (hj : j < (rowL L i).length) : (rowL L i)[j] = entL L (i, j) := by
  show _ = (L.getD i []).getD j kvZ
  have : (rowL L i).getD j kvZ = (rowL L i)[j] := by simp [List.getD, hj]
  exact this.symm
/-- What stands at a place, as it is read for a call. -/
theorem LsAt.place {w : World} {a : Option Addr} {n c : Nat} {L : List (List KV)} (h : LsAt w a n c L) {i j : Nat} (hi : i < n) (hj : j < lenL L i) :
    ∃ (b o : Nat) (ai : Option Addr) (ci q r : Nat), (∀ W : World, (Instr.indexAt 22 (.slice a n c) (.int .i64 (i : Int))).run Try.prog W = .ok (.pointer (some ⟨b, o, none⟩)) W) ∧
      (∀ W : World, (Instr.indexAt 30 (.slice ai (lenL L i) ci) (.int .i64 (j : Int))).run Try.prog W = .ok (.pointer (some ⟨q, r, none⟩)) W) ∧
      ∀ W, Below w.heap.size w W → W.cell? ⟨b, o, none⟩ = some (.slice ai (lenL L i) ci) ∧ W.cell? ⟨q, r, none⟩ = some (.string (entL L (i, j)).1.user) ∧ W.cell? ⟨q, r + 1, none⟩ = some (.int .u64 ((entL L (i, j)).1.seq : Int)) ∧ W.cell? ⟨q, r + 2, none⟩ = some (.int .i64 (entL L (i, j)).1.kind) ∧ W.cell? ⟨q, r + 3, none⟩ = some (.string (entL L (i, j)).2) := by
  obtain ⟨b, off, hx, hb, hc⟩ := h.spots (by omega)
  obtain ⟨ai, ci, h1, h2, _⟩ := hc i hi
  obtain ⟨q, r, hx2, hq, hc2⟩ := h2.spots (show 0 < (rowL L i).length from Nat.lt_of_le_of_lt (Nat.zero_le _) hj)
  refine ⟨b, off + i, ai, ci, q, r + j * 4, hx i hi, hx2 j hj, fun W hW => ⟨h1 W hW, ?_⟩⟩
  have := hc2 W hW j hj
  rw [rowL_at hj] at this
  exact this
theorem best_succ_no {L : List (List KV)} {v : Nat → Nat} {n : Nat} (h : ¬ v n < lenL L n) : bestP L v (n + 1) = bestP L v n := by
  conv => lhs; unfold bestP
  cases e : bestP L v n with
  | none => dsimp only; rw [if_neg h]
  | some b => dsimp only; rw [if_neg (fun x => h x.1)]
theorem best_succ_first {L : List (List KV)} {v : Nat → Nat} {n : Nat} (h : v n < lenL L n) (e : bestP L v n = none) : bestP L v (n + 1) = some n := by
  conv => lhs; unfold bestP
  rw [e]
  dsimp only
  rw [if_pos h]
theorem best_succ_yes {L : List (List KV)} {v : Nat → Nat} {n b : Nat} (h : v n < lenL L n) (e : bestP L v n = some b) (hc : cmpL L (n, v n) (b, v b) < 0) : bestP L v (n + 1) = some n := by
  conv => lhs; unfold bestP
  rw [e]
  dsimp only
  rw [if_pos ⟨h, hc⟩]
theorem best_succ_old {L : List (List KV)} {v : Nat → Nat} {n b : Nat} (e : bestP L v n = some b) (hc : ¬ cmpL L (n, v n) (b, v b) < 0) : bestP L v (n + 1) = some b := by
  conv => lhs; unfold bestP
  rw [e]
  dsimp only
  rw [if_neg (fun x => hc x.2)]
theorem sum_ge (v : Nat → Nat) (b : Nat) : ∀ n, b < n → v b ≤ sumV v n
  | 0, h => absurd h (Nat.not_lt_zero _)
  | n + 1, h => by
    show v b ≤ sumV v n + v n
    by_cases e : b = n
    · subst e; omega
    · have := sum_ge v b n (by omega); omega
end Go.Proofs.Ytjoamhcehpjepab
/- The contracts of the document's own New, Go and Told. -/
namespace Go.Proofs.Ytjoamhcehpjepab
open Go.RowKit
set_option linter.unusedVariables false
set_option linter.unusedSimpArgs false
def normO (l : List KV) (i : Nat) : Option Nat := if i < l.length then some i else none
def seekI (l : List KV) (k : IK) : Nat := (l.takeWhile fun e => decide (e.1.cmp k < 0)).length
/-- Where one is behind a way to go. -/
def goP (l : List KV) (g : Nat) (k : IK) (at_ : Option Nat) : Option Nat :=
  match g with
  | 1 => normO l 0
  | 2 => if l.length = 0 then none else some (l.length - 1)
  | 3 => normO l (seekI l k)
  | 4 => at_.bind fun i => normO l (i + 1)
  | 5 => at_.bind fun i => if i = 0 then none else some (i - 1)
  | _ => at_
def told16 (l : List KV) : Option Nat → KV × Bool
  | none => (kvZ, false)
  | some i => (l.getD i kvZ, true)
end Go.Proofs.Ytjoamhcehpjepab
/- Items in memory: rows of the call's own. -/
namespace Go.Proofs.Ytjoamhcehpjepab
open Go.RowKit
set_option linter.unusedVariables false
set_option linter.unusedSimpArgs false
abbrev TItm : TypeId := 39
abbrev i0 : It17 := (⟨#[]⟩, ⟨#[]⟩)
def cellsI (l : List It17) : List Value := l.flatMap fun p => [.string p.1, .string p.2]
theorem cellsI_len (l : List It17) : (cellsI l).length = l.length * 2 := by
  induction l with
  | nil => rfl
  | cons p l ih =>
    show ([_, _] ++ cellsI l).length = _
    rw [List.length_append, ih, List.length_cons]
    simp; omega
theorem cellsI_append (a b : List It17) : cellsI (a ++ b) = cellsI a ++ cellsI b := by simp [cellsI]
theorem cellsI_get : ∀ (l : List It17) (k : Nat), k < l.length → (cellsI l)[k * 2]? = some (.string (l.getD k i0).1) ∧ (cellsI l)[k * 2 + 1]? = some (.string (l.getD k i0).2)
  | [], k, h => absurd h (Nat.not_lt_zero _)
  | p :: l, 0, _ => ⟨rfl, rfl⟩
  | p :: l, k + 1, h => by
    have ih := cellsI_get l k (by simpa using h)
    have e1 : (cellsI (p :: l))[(k + 1) * 2]? = (cellsI l)[k * 2]? := by
      show ([_, _] ++ cellsI l)[(k + 1) * 2]? = _
      rw [List.getElem?_append_right (by simp; omega)]
      congr 1; simp; omega
    have e2 : (cellsI (p :: l))[(k + 1) * 2 + 1]? = (cellsI l)[k * 2 + 1]? := by
      show ([_, _] ++ cellsI l)[(k + 1) * 2 + 1]? = _
      rw [List.getElem?_append_right (by simp; omega)]
      congr 1; simp; omega
    rw [e1, e2]
    simpa [List.getD] using ih
theorem cellsI_set : ∀ (l : List It17) (k : Nat) (q : It17), ((cellsI l).set (k * 2) (.string q.1)).set (k * 2 + 1) (.string q.2) = cellsI (l.set k q)
  | [], k, q => by simp [cellsI]
  | p :: l, 0, q => rfl
  | p :: l, k + 1, q => by
    have ih := cellsI_set l k q
    show ((_ :: _ :: cellsI l).set ((k + 1) * 2) _).set ((k + 1) * 2 + 1) _ = _ :: _ :: cellsI (l.set k q)
    rw [show (k + 1) * 2 = k * 2 + 1 + 1 by omega, show k * 2 + 1 + 1 + 1 = k * 2 + 1 + 1 + 1 from rfl]
    simp only [List.set_cons_succ]
    rw [ih]
theorem cellsI_one (l : List It17) : ∀ u ∈ cellsI l, u.oneCell' = true := by
  intro u hu
  obtain ⟨e, _, he⟩ := List.mem_flatMap.1 hu
  simp at he
  rcases he with rfl | rfl <;> rfl
/-- A row of items of the call's own. -/
structure OwnI (w : World) (B : Nat) (a : Option Addr) (n c : Nat) (l : List It17) : Prop where
  size : l.length = n
  row : w.ownsRow B TItm 2 (.slice a n c) n (cellsI l)
section
variable {w w' : World} {B : Nat} {a : Option Addr} {n c : Nat} {l : List It17}
theorem OwnI.nil (w : World) (B : Nat) : OwnI w B none 0 0 [] := ⟨rfl, World.ownsRow_nil _ _ _ 2⟩
theorem OwnI.kept (h : OwnI w B a n c l) (hk : ∀ k, blkOf a = some k → w'.heap[k]? = w.heap[k]?) : OwnI w' B a n c l := ⟨h.size, row_same h.row (fun b e => hk b (by rw [← own_blk a n c]; exact e))⟩
theorem OwnI.below (h : OwnI w B a n c l) (hb : Below w.heap.size w w') : OwnI w' B a n c l := ⟨h.size, row_below h.row hb⟩
theorem OwnI.tag (h : OwnI w B a n c l) {k : Nat} (hk : blkOf a = some k) : tag w k = some TItm := row_tag h.row (by rw [own_blk]; exact hk)
theorem OwnI.ge (h : OwnI w B a n c l) {k : Nat} (hk : blkOf a = some k) : B ≤ k ∧ k < w.heap.size := h.row.lt k (by rw [own_blk]; exact hk)
theorem OwnI.spots (h : OwnI w B a n c l) (hp : 0 < n) : ∃ g, a = some ⟨g, 0, none⟩ ∧ (∀ k, k < n → w.cell? ⟨g, k * 2, none⟩ = some (.string (l.getD k i0).1) ∧ w.cell? ⟨g, k * 2 + 1, none⟩ = some (.string (l.getD k i0).2)) ∧ ∀ j, w.frozen? ⟨g, j, none⟩ = false := by
  obtain ⟨_, _, _, h4⟩ := row_addr h.row
  obtain ⟨g, rfl⟩ := h4 hp
  have hs := h.size
  refine ⟨g, rfl, fun k hk => ?_, fun j => h.row.frozenAt j⟩
  have := cellsI_get l k (by omega)
  exact ⟨by rw [h.row.cellAt _ (by omega)]; exact this.1, by rw [h.row.cellAt _ (by omega)]; exact this.2⟩
theorem OwnI.set {g : Nat} (h : OwnI w B (some ⟨g, 0, none⟩) n c l) (k : Nat) (q : It17) : OwnI ((w.setCell ⟨g, k * 2, none⟩ (.string q.1)).setCell ⟨g, k * 2 + 1, none⟩ (.string q.2)) B (some ⟨g, 0, none⟩) n c (l.set k q) := by
  refine ⟨by rw [List.length_set]; exact h.size, ?_⟩
  rw [← cellsI_set]
  exact ((h.row.stored _ _).1.stored _ _).1
theorem OwnI.pop {g : Nat} {q : It17} (h : OwnI w B (some ⟨g, 0, none⟩) (n + 1) c (l ++ [q])) : OwnI w B (some ⟨g, 0, none⟩) n c l := by
  have hs : l.length = n := by have := h.size; simpa using this
  refine ⟨hs, ownsRow_pop (last := cellsI [q]) (by rw [cellsI_len, hs]) ?_⟩
  rw [← cellsI_append]
  exact h.row
end
theorem infoItm : (Try.prog.info? TItm).map (fun i => (i.zero, i.size, i.bytes)) = some (some (.agg #[.string ⟨#[]⟩, .string ⟨#[]⟩]), 2, 32) := by kernel_rfl
set_option maxRecDepth 100000 in
theorem idxI (W : World) {b n c i : Nat} (hi : i < n) : (Instr.indexAt 35 (.slice (some ⟨b, 0, none⟩) n c) (.int .i64 (i : Int))).run Try.prog W = .ok (.pointer (some ⟨b, i * 2, none⟩)) W := by
  have h1 : (0 : Int) ≤ (i : Int) ∧ (i : Int) < (n : Int) := by omega
  have hsz : (sizeOf (Try.prog.elem 35)).run Try.prog W = .ok 2 W := by kernel_rfl
  rw [run_indexAt_slice (P := Try.prog) (h := (by kernel_rfl : Try.prog.underlying 35 = some (.slice (Try.prog.elem 35)))), if_pos h1, hsz]
  simp [Result.andThen, Addr.add_lit]
theorem step_pushI {ops : Array Oper} {o : Oper} {a : Act} {K : Act → World → Prop} {Q : Exit → Act → World → Prop} {E : Prop} (W : World) (hgd : o.guard = none) (s x : Operand)
    (ho : o.op = .call { callee := .builtin .append, args := #[s, x], argTypes := #[35, 35] })
    (B : Nat) (a1 : Option Addr) (n1 c1 : Nat) (l : List It17) (hs : a.eval s = .slice a1 n1 c1) (hown : OwnI W B a1 n1 c1 l)
    (v : It17) (cv : Array Value) (hcv : cv.toList = cellsI [v]) (g : Nat) (hg : g = W.heap.size) (hx : a.eval x = .slice (some ⟨g, 0, none⟩) 1 1)
    (hb : n1 + 1 ≤ 2000000000000) (hB : B ≤ W.heap.size)
    (h : ∀ a' c' w', OwnI w' B a' (n1 + 1) c' (l ++ [v]) → Below B W w' → (W.alloc (.cells cv TItm)).grownBy w' (blkOf a1) → K (a.put o.dst (.slice a' (n1 + 1) c')) w') :
    if Region.wanted o (yielded ops a.tmps) = true then Oper.wp Try.prog o a (W.alloc (.cells cv TItm)) K Q else E := by
  subst hg
  have hw : Region.wanted o (yielded ops a.tmps) = true := by simp [Region.wanted, hgd]
  rw [if_pos hw]
  obtain ⟨i, hi, hz0, hz1, hz2⟩ := info_parts infoItm
  have hl := hown.size
  have hown2 : (W.alloc (.cells cv TItm)).ownsRow B TItm 2 (.slice a1 n1 c1) n1 (cellsI l) := hown.row.alloc _
  have hlt : ∀ k, (Value.slice a1 n1 c1).ownBlock = some k → B ≤ k := fun k hk => (hown.row.lt k hk).1
  have hB2 : B ≤ (W.alloc (.cells cv TItm)).heap.size := by simp; omega
  have hcell : ∀ j u, (cellsI [v])[j]? = some u → (W.alloc (.cells cv TItm)).cell? ((⟨W.heap.size, 0, none⟩ : Addr).add j) = some u := by
    intro j u hu
    rw [Addr.add_lit, Nat.zero_add, (Box.new W TItm cv).cell, ← Array.getElem?_toList, hcv]
    exact hu
  obtain ⟨v', w', hr, h2, h3, h4, h5⟩ := run_append_own_at (P := Try.prog) (W.alloc (.cells cv TItm)) B 35 o.type TItm i _ 2 32 Try.underlying35 hi hz0 hz1 hz2 rfl (by decide) _ n1 _ hown2 ⟨W.heap.size, 0, none⟩ 1 1 (cellsI [v]) (by simp [cellsI]) hcell (cellsI_one _) (by unfold maxLen; omega) (by omega) hB2
  unfold Oper.wp execOp
  simp only [ho, resolve, invoke, builtin, Sem.run_bind, Sem.run_pure, Result.andThen_ok, List.map_toArray, List.map_cons, List.map_nil, hs, hx, hr]
  obtain ⟨a', c', rfl⟩ := slice_of_row h2
  refine h a' c' w' ⟨by rw [List.length_append]; simp; omega, ?_⟩ (((Below.refl _ _).alloc hB _).trans ((Below.refl B _).grown h3 hB2 hlt)) (by rw [← own_blk a1 n1 c1]; exact h3)
  rw [cellsI_append]
  exact h2
theorem wpList_pushI (W : World) {ops : Array Oper} {rest : List Oper} {o : Oper} {a : Act} {Q : Exit → Act → World → Prop} (hgd : o.guard = none) (s x : Operand)
    (ho : o.op = .call { callee := .builtin .append, args := #[s, x], argTypes := #[35, 35] })
    (B : Nat) (a1 : Option Addr) (n1 c1 : Nat) (l : List It17) (hs : a.eval s = .slice a1 n1 c1) (hown : OwnI W B a1 n1 c1 l)
    (v : It17) (cv : Array Value) (hcv : cv.toList = cellsI [v]) (g : Nat) (hg : g = W.heap.size) (hx : a.eval x = .slice (some ⟨g, 0, none⟩) 1 1)
    (hb : n1 + 1 ≤ 2000000000000) (hB : B ≤ W.heap.size)
    (h : ∀ a' c' w', OwnI w' B a' (n1 + 1) c' (l ++ [v]) → Below B W w' → (W.alloc (.cells cv TItm)).grownBy w' (blkOf a1) → wpList Try.prog ops Q rest (a.put o.dst (.slice a' (n1 + 1) c')) w') :
    wpList Try.prog ops Q (o :: rest) a (W.alloc (.cells cv TItm)) := by
  refine wpList_plain hgd fun K hK => ?_
  have := step_pushI (ops := ops) (o := o) (a := a) (K := K) (Q := Q) (E := True) W hgd s x ho B a1 n1 c1 l hs hown v cv hcv g hg hx hb hB (fun a' c' w' h1 h2 h3 => hK _ _ (h a' c' w' h1 h2 h3))
  rw [if_pos (by simp [Region.wanted, hgd])] at this
  exact this
end Go.Proofs.Ytjoamhcehpjepab
/- The contract of the document's own Seen. -/
namespace Go.Proofs.Ytjoamhcehpjepab
open Go.RowKit
set_option linter.unusedVariables false
set_option linter.unusedSimpArgs false
theorem seen_next {s : Nat} {l : List KV} {i : Nat} {e : KV} (he : l[i]? = some e) : seenS s l (i + 1) = stepSn s (if i = 0 then none else l[i - 1]?) (seenS s l i) e := by
  show (match l[i]? with | none => _ | some e => _) = _
  rw [he]
/-- Is the user another one than the one ahead. -/
def otherU (l : List KV) (i : Nat) (e : KV) : Bool := ((if i = 0 then none else l[i - 1]?).any fun q => decide (q.1.user ≠ e.1.user))
theorem step_eq {s : Nat} {l : List KV} {i : Nat} {e : KV} (he : l[i]? = some e) {d d' : Bool} {out : List It17} (h : seenS s l i = (d, out)) (hd : d' = if otherU l i e = true then false else d) : seenS s l (i + 1) = if d' = true ∨ s < e.1.seq then (d', out) else (true, if e.1.kind = 1 then out ++ [(e.1.user, e.2)] else out) := by
  rw [seen_next he, h]
  unfold stepSn otherU at *
  rw [hd]
/-- What is told of the first entries. -/
structure Sn (w W : World) (s : Nat) (l : List KV) (i : Nat) (a : Option Addr) (m c : Nat) (d : Bool) (out : List It17) : Prop where
  base : Below w.heap.size w W
  own : OwnI W w.heap.size a m c out
  eq : seenS s l i = (d, out)
theorem Sn.below {w W W' : World} {s : Nat} {l : List KV} {i : Nat} {a : Option Addr} {m c : Nat} {d : Bool} {out : List It17} (h : Sn w W s l i a m c d out) (hb : Below W.heap.size W W') : Sn w W' s l i a m c d out := ⟨h.base.trans (hb.mono h.base.size), h.own.below hb, h.eq⟩
end Go.Proofs.Ytjoamhcehpjepab
