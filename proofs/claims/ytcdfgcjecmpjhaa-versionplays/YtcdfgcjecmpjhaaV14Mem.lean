/- Versions in memory: four rows of files; rows of numbers. -/
import Derived.Test.YtcdfgcjecmpjhaaE13Same
import Derived.Test.YtcdfgcjecmpjhaaV14Keep
import Derived.Test.YtcdfgcjecmpjhaaU14Row
import Derived.Deep.QuietTactic
namespace Go.Proofs.Ytcdfgcjecmpjhaa
open Go.RowKit
set_option linter.unusedVariables false
set_option linter.unusedSimpArgs false
abbrev TVn : TypeId := 26
/-- Where a version's rows lie. -/
structure SV where
  a : Nat → Option Addr
  c : Nat → Nat
def vA (v : PV) (s : SV) : Array Value := #[.slice (s.a 0) (v 0).length (s.c 0), .slice (s.a 1) (v 1).length (s.c 1), .slice (s.a 2) (v 2).length (s.c 2), .slice (s.a 3) (v 3).length (s.c 3)]
def VnAt (w : World) (v : PV) (s : SV) : Prop := ∀ n, n < 4 → FlAt w (s.a n) (v n).length (s.c n) (v n)
def OwnV (w : World) (B : Nat) (v : PV) (s : SV) : Prop := ∀ n, n < 4 → OwnF w B (s.a n) (v n).length (s.c n) (v n)
def WfV (v : PV) : Prop := ∀ n, n < 4 → ∀ f ∈ v n, WfF f
theorem VnAt.below {w w' : World} {v : PV} {s : SV} (h : VnAt w v s) (hb : Below w.heap.size w w') : VnAt w' v s := fun n hn => (h n hn).below hb
theorem OwnV.at {w : World} {B : Nat} {v : PV} {s : SV} (h : OwnV w B v s) : VnAt w v s := fun n hn => (h n hn).fs
theorem OwnV.below {w w' : World} {B : Nat} {v : PV} {s : SV} (h : OwnV w B v s) (hb : Below w.heap.size w w') : OwnV w' B v s := fun n hn => (h n hn).below hb
def sv0 : SV := ⟨fun _ => none, fun _ => 0⟩
theorem OwnV.none (w : World) (B : Nat) : OwnV w B noV sv0 := fun n _ => OwnF.nil w B
theorem four {P : Nat → Prop} {k : Nat} (hk : k < 4) (h0 : P 0) (h1 : P 1) (h2 : P 2) (h3 : P 3) : P k := by
  have : k = 0 ∨ k = 1 ∨ k = 2 ∨ k = 3 := by omega
  rcases this with rfl | rfl | rfl | rfl
  · exact h0
  · exact h1
  · exact h2
  · exact h3
set_option maxRecDepth 100000 in
theorem idx_arr (v : PV) (s : SV) (k : Nat) (hk : k < 4) (W : World) : (Instr.index 24 (.agg #[.slice (s.a 0) (v 0).length (s.c 0), .slice (s.a 1) (v 1).length (s.c 1), .slice (s.a 2) (v 2).length (s.c 2), .slice (s.a 3) (v 3).length (s.c 3)]) (.int .i64 (k : Int))).run Try.prog W = .ok (.slice (s.a k) (v k).length (s.c k)) W := by
  refine four (P := fun k => (Instr.index 24 (.agg #[.slice (s.a 0) (v 0).length (s.c 0), .slice (s.a 1) (v 1).length (s.c 1), .slice (s.a 2) (v 2).length (s.c 2), .slice (s.a 3) (v 3).length (s.c 3)]) (.int .i64 (k : Int))).run Try.prog W = .ok (.slice (s.a k) (v k).length (s.c k)) W) hk ?_ ?_ ?_ ?_
  all_goals simp [go_sem, Try.underlying24]
  all_goals kernel_rfl
/-- Rows of numbers. -/
def cellsU (l : List Nat) : List Value := l.map fun (n : Nat) => Value.int .u64 ((n : Nat) : Int)
structure UsAt (w : World) (a : Option Addr) (n c : Nat) (l : List Nat) : Prop where
  size : l.length = n
  row : VsAt 1 w a n c (cellsU l)
structure OwnU (w : World) (B : Nat) (a : Option Addr) (n c : Nat) (l : List Nat) : Prop where
  size : l.length = n
  row : w.ownsRow B TU 1 (.slice a n c) n (cellsU l)
theorem infoU : (Try.prog.info? TU).map (fun i => (i.zero, i.size, i.bytes)) = some (some (.int .u64 0), 1, 8) := by kernel_rfl
theorem OwnU.us {w : World} {B : Nat} {a : Option Addr} {n c : Nat} {l : List Nat} (h : OwnU w B a n c l) : UsAt w a n c l := ⟨h.size, VsAt.ofOwn h.row (by simp [cellsU, h.size])⟩
theorem UsAt.below {w w' : World} {a : Option Addr} {n c : Nat} {l : List Nat} (h : UsAt w a n c l) (hb : Below w.heap.size w w') : UsAt w' a n c l := ⟨h.size, h.row.below (by omega) hb⟩
theorem OwnU.nil (w : World) (B : Nat) : OwnU w B none 0 0 [] := ⟨rfl, World.ownsRow_nil _ _ _ 1⟩
theorem OwnU.below {w w' : World} {B : Nat} {a : Option Addr} {n c : Nat} {l : List Nat} (h : OwnU w B a n c l) (hb : Below w.heap.size w w') : OwnU w' B a n c l := ⟨h.size, row_below h.row hb⟩
theorem OwnU.alloc {w : World} {B : Nat} {a : Option Addr} {n c : Nat} {l : List Nat} (h : OwnU w B a n c l) (o : Obj) : OwnU (w.alloc o) B a n c l := ⟨h.size, h.row.alloc o⟩
theorem OwnU.kept {w w' : World} {B : Nat} {a : Option Addr} {n c : Nat} {l : List Nat} (h : OwnU w B a n c l) (hk : ∀ k, blkOf a = some k → w'.heap[k]? = w.heap[k]?) : OwnU w' B a n c l := ⟨h.size, row_same h.row (fun b e => hk b (by rw [← own_blk a n c]; exact e))⟩
theorem OwnU.tag {w : World} {B : Nat} {a : Option Addr} {n c : Nat} {l : List Nat} (h : OwnU w B a n c l) {k : Nat} (hk : blkOf a = some k) : tag w k = some TU := row_tag h.row (by rw [own_blk]; exact hk)
theorem OwnU.ge {w : World} {B : Nat} {a : Option Addr} {n c : Nat} {l : List Nat} (h : OwnU w B a n c l) {k : Nat} (hk : blkOf a = some k) : B ≤ k := (h.row.lt k (by rw [own_blk]; exact hk)).1
theorem UsAt.one (W : World) (x : Nat) : UsAt (W.alloc (.cells #[.int .u64 (x : Int)] TU)) (some ⟨W.heap.size, 0, none⟩) 1 1 [x] := by
  refine ⟨rfl, rfl, Nat.le_refl _, by unfold maxLen; omega, by simp, fun _ => ⟨W.heap.size, 0, rfl, fun j hj => ?_⟩⟩
  rw [Nat.zero_add, (Box.new W TU #[.int .u64 (x : Int)]).cell, ← Array.getElem?_toList]
  simp [cellsU]
theorem cellsU_one (l : List Nat) : ∀ u ∈ cellsU l, u.oneCell' = true := by
  intro u hu
  obtain ⟨_, _, rfl⟩ := List.mem_map.1 hu
  rfl
theorem wpList_appU (w : World) {ops : Array Oper} {rest : List Oper} {o : Oper} {a : Act} {Q : Exit → Act → World → Prop} (hgd : o.guard = none) (s x : Operand)
    (ho : o.op = .call { callee := .builtin .append, args := #[s, x], argTypes := #[43, 43] })
    (B : Nat) (a1 : Option Addr) (n1 c1 : Nat) (l : List Nat) (hs : a.eval s = .slice a1 n1 c1) (hown : OwnU w B a1 n1 c1 l)
    (a2 : Option Addr) (n2 c2 : Nat) (m : List Nat) (hx : a.eval x = .slice a2 n2 c2) (hsrc : UsAt w a2 n2 c2 m)
    (hb : (n1 + n2) * 8 ≤ 140737488355328) (hB : B ≤ w.heap.size)
    (h : ∀ a' c' w', OwnU w' B a' (n1 + n2) c' (l ++ m) → Below B w w' → w.grownBy w' (blkOf a1) → wpList Try.prog ops Q rest (a.put o.dst (.slice a' (n1 + n2) c')) w') :
    wpList Try.prog ops Q (o :: rest) a w := by
  have hm := hsrc.size
  have hl := hown.size
  refine wpList_appV w hgd s x _ TU ho Try.underlying43 _ 1 8 infoU rfl (by decide) B a1 n1 c1 _ hs hown.row a2 n2 c2 (cellsU m) hx (fun e => ?_) (by simp [cellsU, hm]) hsrc.row.src (cellsU_one m) (by unfold maxLen; omega) hb hB (fun a' c' w' hr hb hg => h a' c' w' ⟨by rw [List.length_append]; omega, by rw [cellsU, List.map_append]; exact hr⟩ hb hg)
  have := hsrc.row.bare e
  have := hsrc.row.le
  omega
/-- Where a number lies, in all later worlds. -/
theorem UsAt.at {w : World} {a : Option Addr} {n c : Nat} {l : List Nat} (h : UsAt w a n c l) {k : Nat} (hk : k < l.length) : ∃ b o : Nat, (∀ W : World, (Instr.indexAt 43 (.slice a n c) (.int .i64 (k : Int))).run Try.prog W = .ok (.pointer (some ⟨b, o, none⟩)) W) ∧ b < w.heap.size ∧ (∀ W : World, Below w.heap.size w W → W.cell? ⟨b, o, none⟩ = some (.int .u64 (l[k] : Int))) := by
  have hs := h.size
  obtain ⟨b, off, rfl, hc⟩ := h.row.here (by omega)
  have e0 := hc k (by omega)
  have e1 : (cellsU l)[k]? = some (.int .u64 (l[k] : Int)) := by simp [cellsU, hk]
  rw [e1] at e0
  have hlt : b < w.heap.size := World.block_lt_of_cell? w _ e0
  refine ⟨b, off + k, fun W => ?_, hlt, fun W hW => by rw [hW.cell hlt]; exact e0⟩
  have h1 : (0 : Int) ≤ (k : Int) ∧ (k : Int) < (n : Int) := by omega
  have hsz : (sizeOf (Try.prog.elem 43)).run Try.prog W = .ok 1 W := by kernel_rfl
  rw [run_indexAt_slice (P := Try.prog) (h := (by kernel_rfl : Try.prog.underlying 43 = some (.slice (Try.prog.elem 43)))), if_pos h1, hsz]
  simp [Result.andThen, Addr.add_lit]
theorem Box.fourV {w : World} {p : Nat} {t : TypeId} {v : PV} {s : SV} (h : Box w p t (vA v s)) : w.cell? ⟨p, 0, none⟩ = some (.slice (s.a 0) (v 0).length (s.c 0)) ∧ w.cell? ⟨p, 1, none⟩ = some (.slice (s.a 1) (v 1).length (s.c 1)) ∧ w.cell? ⟨p, 2, none⟩ = some (.slice (s.a 2) (v 2).length (s.c 2)) ∧ w.cell? ⟨p, 3, none⟩ = some (.slice (s.a 3) (v 3).length (s.c 3)) := ⟨h.cell 0, h.cell 1, h.cell 2, h.cell 3⟩
/-- A later world. -/
structure Bel (w : World) where
  now : World
  h : Below w.heap.size w now
theorem wp_region_bel {id : Nat} {Q : Exit → Act → World → Prop} {a : Act} {w : World} {l : List Oper} (hm : Try.prog.follows .mixedOrders = true) (hB : Region.lexB .any l.toArray = true)
    (h : wpQuiet Try.prog l.toArray (fun w' => ∃ p : Bel w, w' = p.now) (fun a' => ∀ w', (∃ p : Bel w, w' = p.now) → Q .normal a' w') l a) : (Code.region id l.toArray true).wp Try.prog Q a w :=
  wp_region_quiet (C := fun w' => ∃ p : Bel w, w' = p.now) hm hB ⟨⟨w.drew, (Below.refl _ _).drew⟩, rfl⟩ (by simpa using h)
theorem bel_call {f : FuncId} {args : Array Value} {w : World} {v : Value} {p : Bel w} (h : Calls Try.prog f args p.now fun e x => e = .returned v ∧ Below p.now.heap.size p.now x) : Calls Try.prog f args p.now fun e x => e = .returned v ∧ ∃ p' : Bel w, x = p'.now :=
  h.mono fun _ x ⟨he, hb⟩ => ⟨he, ⟨x, p.h.trans (hb.mono p.h.size)⟩, rfl⟩
end Go.Proofs.Ytcdfgcjecmpjhaa
