/- Lists of rows of entries in memory; a row of numbers; an entry onto a row in a region that draws. -/
import Derived.Test.YtfijibengmgegaaM16Rises
import Derived.Maps.AppendAt
namespace Go.Proofs.Ytfijibengmgegaa
open Go.RowKit
set_option linter.unusedVariables false
set_option linter.unusedSimpArgs false
def rowL (L : List (List KV)) (i : Nat) : List KV := L.getD i []
/-- The slice value reads as rows of entries. -/
structure LsAt (w : World) (a : Option Addr) (n c : Nat) (L : List (List KV)) : Prop where
  size : L.length = n
  le : n ≤ c
  max : c ≤ maxLen
  bare : a = none → c = 0
  here : 0 < n → ∃ b off, a = some ⟨b, off, none⟩ ∧ ∀ i, i < n → ∃ ai ci, w.cell? ⟨b, off + i, none⟩ = some (.slice ai (rowL L i).length ci) ∧ KsAt w ai (rowL L i).length ci (rowL L i) ∧ (ai = none → ci = 0)
theorem LsAt.below {w w' : World} {a : Option Addr} {n c : Nat} {L : List (List KV)} (h : LsAt w a n c L) (hb : Below w.heap.size w w') : LsAt w' a n c L := ⟨h.size, h.le, h.max, h.bare, fun hp => by
  obtain ⟨b, off, ha, hc⟩ := h.here hp
  refine ⟨b, off, ha, fun i hi => ?_⟩
  obtain ⟨ai, ci, h1, h2, h3⟩ := hc i hi
  exact ⟨ai, ci, by rw [hb.cell (World.block_lt_of_cell? w _ h1)]; exact h1, h2.below hb, h3⟩⟩
theorem LsAt.nil (w : World) : LsAt w none 0 0 [] := ⟨rfl, Nat.le_refl _, Nat.zero_le _, fun _ => rfl, fun h => absurd h (Nat.lt_irrefl _)⟩
set_option maxRecDepth 100000 in
theorem idxL (W : World) {b off n c i : Nat} (hi : i < n) : (Instr.indexAt 23 (.slice (some ⟨b, off, none⟩) n c) (.int .i64 (i : Int))).run Try.prog W = .ok (.pointer (some ⟨b, off + i, none⟩)) W := by
  have h1 : (0 : Int) ≤ (i : Int) ∧ (i : Int) < (n : Int) := by omega
  have hsz : (sizeOf (Try.prog.elem 23)).run Try.prog W = .ok 1 W := by kernel_rfl
  rw [run_indexAt_slice (P := Try.prog) (h := (by kernel_rfl : Try.prog.underlying 23 = some (.slice (Try.prog.elem 23)))), if_pos h1, hsz]
  simp [Result.andThen, Addr.add_lit]
set_option maxRecDepth 100000 in
theorem idxN (W : World) {b n c i : Nat} (hi : i < n) : (Instr.indexAt 70 (.slice (some ⟨b, 0, none⟩) n c) (.int .i64 (i : Int))).run Try.prog W = .ok (.pointer (some ⟨b, i, none⟩)) W := by
  have h1 : (0 : Int) ≤ (i : Int) ∧ (i : Int) < (n : Int) := by omega
  have hsz : (sizeOf (Try.prog.elem 70)).run Try.prog W = .ok 1 W := by kernel_rfl
  rw [run_indexAt_slice (P := Try.prog) (h := (by kernel_rfl : Try.prog.underlying 70 = some (.slice (Try.prog.elem 70)))), if_pos h1, hsz]
  simp [Result.andThen, Addr.add_lit]
/-- Where the rows lie, in every world that has them. -/
theorem LsAt.spots {w : World} {a : Option Addr} {n c : Nat} {L : List (List KV)} (h : LsAt w a n c L) (hp : 0 < n) : ∃ b off, (∀ i, i < n → ∀ W : World, (Instr.indexAt 23 (.slice a n c) (.int .i64 (i : Int))).run Try.prog W = .ok (.pointer (some ⟨b, off + i, none⟩)) W) ∧ b < w.heap.size ∧
    ∀ i, i < n → ∃ ai ci, (∀ W, Below w.heap.size w W → W.cell? ⟨b, off + i, none⟩ = some (.slice ai (rowL L i).length ci)) ∧ KsAt w ai (rowL L i).length ci (rowL L i) ∧ (ai = none → ci = 0) := by
  obtain ⟨b, off, ha, hc⟩ := h.here hp
  subst ha
  have hb : b < w.heap.size := by
    obtain ⟨_, _, h0, _⟩ := hc 0 hp
    exact World.block_lt_of_cell? w _ h0
  refine ⟨b, off, fun i hi W => idxL W hi, hb, fun i hi => ?_⟩
  obtain ⟨ai, ci, h1, h2⟩ := hc i hi
  exact ⟨ai, ci, fun W hW => by rw [hW.cell hb]; exact h1, h2⟩
/-- A row of numbers, made by make. -/
def atA (v : Nat → Nat) (n : Nat) : Array Value := ((List.range n).map fun i => Value.int .i64 (v i : Int)).toArray
theorem atA_get (v : Nat → Nat) {n i : Nat} (hi : i < n) : (atA v n)[i]? = some (.int .i64 (v i : Int)) := by simp [atA, hi]
theorem atA_set (v : Nat → Nat) (n b : Nat) : (atA v n).setIfInBounds b (.int .i64 ((v b + 1 : Nat) : Int)) = atA (upV v b) n := by
  apply Array.ext_getElem?
  intro i
  rw [Array.getElem?_setIfInBounds]
  by_cases hi : i < n
  · rw [atA_get _ hi]
    by_cases e : b = i
    · subst e
      rw [if_pos rfl, if_pos (by simp [atA]; exact hi), atA_get _ hi]
      simp [upV]
    · rw [if_neg e, atA_get _ hi]
      simp [upV, Ne.symm e]
  · have h1 : (atA (upV v b) n)[i]? = none := Array.getElem?_eq_none (by simp [atA]; omega)
    have h2 : (atA v n)[i]? = none := Array.getElem?_eq_none (by simp [atA]; omega)
    rw [h1, h2]
    by_cases e : b = i
    · rw [if_pos e, if_neg (by simp [atA]; omega)]
    · rw [if_neg e]
theorem made_int (n : Nat) (hn : n ≤ 1000000000) (w : World) : (Instr.makeSlice 70 (.int .i64 (n : Int)) (.int .i64 (n : Int))).run Try.prog w = .ok (.slice (some ⟨w.heap.size, 0, none⟩) n n) (w.alloc (.cells (atA (fun _ => 0) n) 3)) := by
  obtain ⟨i, hi, hzz⟩ := Option.map_eq_some_iff.1 infoI64
  simp only [Prod.mk.injEq] at hzz
  obtain ⟨hz, hs, hb⟩ := hzz
  have hr := run_make (P := Try.prog) w 70 3 i _ Try.underlying70 hi hz .i64 .i64 n n (by omega) (Int.le_refl _) (by rw [hb]; omega) (by omega)
  simp only [Int.toNat_natCast, hs] at hr
  have e : madeCells (Value.int .i64 0).cells (n * 1) = atA (fun _ => 0) n := by
    apply Array.ext_getElem?
    intro k
    by_cases hk : k < n
    · rw [atA_get _ hk]
      simp [madeCells, Value.cells, hk, Nat.mod_one]
    · rw [Array.getElem?_eq_none (by simp [madeCells]; omega), Array.getElem?_eq_none (by simp [atA]; omega)]
  rw [e] at hr
  exact hr
/-- Blocks that hold no entries stay. -/
def OthK (W W' : World) : Prop := ∀ k, k < W.heap.size → tag W k ≠ some TKV → W'.heap[k]? = W.heap[k]?
theorem othk_push {W W' : World} {B : Nat} {a : Option Addr} {n c : Nat} {l : List KV} (h : OwnK W B a n c l) (o : Obj) (hg : (W.alloc o).grownBy W' (blkOf a)) : OthK W W' := fun k hk ht => by
  rw [hg.block k (by simp; omega) (fun e => ht (h.tag e.symm))]
  exact Below.heap_alloc W o k hk
theorem Box.othk {W W' : World} {p : Nat} {t : TypeId} {arr : Array Value} (h : Box W p t arr) (hk : OthK W W') (ht : t ≠ TKV) : Box W' p t arr := h.kept (hk p h.lt (by rw [h.tag]; intro e; exact ht (Option.some.inj e)))
theorem step_pushE {ops : Array Oper} {o : Oper} {a : Act} {K : Act → World → Prop} {Q : Exit → Act → World → Prop} {E : Prop} (W : World) (hgd : o.guard = none) (s x : Operand)
    (ho : o.op = .call { callee := .builtin .append, args := #[s, x], argTypes := #[26, 26] })
    (B : Nat) (a1 : Option Addr) (n1 c1 : Nat) (l : List KV) (hs : a.eval s = .slice a1 n1 c1) (hown : OwnK W B a1 n1 c1 l)
    (v : KV) (cv : Array Value) (hcv : cv.toList = kvc v) (g : Nat) (hg : g = W.heap.size) (hx : a.eval x = .slice (some ⟨g, 0, none⟩) 1 1)
    (hb : n1 + 1 ≤ 2000000000000) (hB : B ≤ W.heap.size)
    (h : ∀ a' c' w', OwnK w' B a' (n1 + 1) c' (l ++ [v]) → Below B W w' → (W.alloc (.cells cv TKV)).grownBy w' (blkOf a1) → K (a.put o.dst (.slice a' (n1 + 1) c')) w') :
    if Region.wanted o (yielded ops a.tmps) = true then Oper.wp Try.prog o a (W.alloc (.cells cv TKV)) K Q else E := by
  subst hg
  have hw : Region.wanted o (yielded ops a.tmps) = true := by simp [Region.wanted, hgd]
  rw [if_pos hw]
  obtain ⟨i, hi, hz0, hz1, hz2⟩ := info_parts infoKV
  have hl := hown.size
  have hown2 := hown.alloc (.cells cv TKV)
  have hlt : ∀ k, (Value.slice a1 n1 c1).ownBlock = some k → B ≤ k := fun k hk => (hown.row.lt k hk).1
  have hB2 : B ≤ (W.alloc (.cells cv TKV)).heap.size := by simp; omega
  have hcell : ∀ j u, (kvc v)[j]? = some u → (W.alloc (.cells cv TKV)).cell? ((⟨W.heap.size, 0, none⟩ : Addr).add j) = some u := by
    intro j u hu
    rw [Addr.add_lit, Nat.zero_add, (Box.new W TKV cv).cell, ← Array.getElem?_toList, hcv]
    exact hu
  have hone : ∀ u ∈ kvc v, u.oneCell' = true := by
    have := cellsKV_one [v]
    simpa [cellsKV] using this
  obtain ⟨v', w', hr, h2, h3, h4, h5⟩ := run_append_own_at (P := Try.prog) (W.alloc (.cells cv TKV)) B 26 o.type TKV i _ 4 48 Try.underlying26 hi hz0 hz1 hz2 rfl (by decide) _ n1 _ hown2.row ⟨W.heap.size, 0, none⟩ 1 1 (kvc v) (by simp [kvc]) hcell hone (by unfold maxLen; omega) (by omega) hB2
  unfold Oper.wp execOp
  simp only [ho, resolve, invoke, builtin, Sem.run_bind, Sem.run_pure, Result.andThen_ok, List.map_toArray, List.map_cons, List.map_nil, hs, hx, hr]
  obtain ⟨a', c', rfl⟩ := slice_of_row h2
  refine h a' c' w' ⟨by rw [List.length_append]; simp; omega, ?_⟩ (((Below.refl _ _).alloc hB _).trans ((Below.refl B _).grown h3 hB2 hlt)) (by rw [← own_blk a1 n1 c1]; exact h3)
  rw [cellsKV_append]
  simpa [cellsKV] using h2
end Go.Proofs.Ytfijibengmgegaa
