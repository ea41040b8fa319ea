/- What is taken away and laid again is as it was; files laid in whatever order are the same: plainly. -/
import Derived.Test.YtmlfbihlbiikeabGreatDoorQa04
import Derived.Test.YtmlfbihlbiikeabGreatDoorChecked
import Derived.Test.YtmlfbihlbiikeabGreatDoorQa02
import Derived.Sort.AssemblyPlain
import Derived.Sort.Row
import Derived.WalkKit
import Derived.BigQuiet
import Derived.CellFam
import Derived.BigCall
import Derived.Deep.LoopGhost
import Derived.Deep.QuietTactic
import Derived.Test.YtmlfbihlbiikeabGreatDoorQa03
import Derived.OpenShut
namespace Go.Proofs.YtmlfbihlbiikeabGreatDoor
set_option linter.unusedVariables false
set_option linter.unusedSimpArgs false
theorem err_mk14 {x : PE} (h1 : x.dels.length ≤ 20000) (h2 : x.adds.length ≤ 100) (h3 : x.log ≤ 1099511627776) (h4 : x.next ≤ 1099511627776) (h5 : x.last ≤ 72057594037927935) (h6 : ∀ g ∈ x.dels, g.err = 0) (h7 : ∀ f ∈ x.adds, f.err = 0) : x.err = 0 := by
  unfold PE.err
  rw [if_neg (by omega), if_neg (by omega), if_neg (by omega), errL_zero.2 h6, errL_zero.2 h7]
  rfl
theorem VOk.none : VOk noV := by
  refine ⟨fun n hn => ⟨fun f hf => absurd hf (by simp [noV]), List.Pairwise.nil⟩, ?_⟩
  simp [PV.all, noV]
theorem apply_zero {v w : PV} {x : PE} (h : applyV v x = (0, w)) : VOk v ∧ x.err = 0 ∧ ∃ u, delsV v x.dels = some u ∧ addsV u x.adds = (0, w) := by
  unfold applyV at h
  by_cases h1 : okV v = false
  · rw [if_pos h1] at h
    cases h
  · rw [if_neg h1] at h
    by_cases h2 : x.err ≠ 0
    · rw [if_pos h2] at h
      simp only [Prod.mk.injEq] at h
      exact absurd h.1 h2
    · rw [if_neg h2] at h
      refine ⟨okV_iff.1 (by simpa using h1), by omega, ?_⟩
      cases h3 : delsV v x.dels with
      | none =>
        rw [h3] at h
        simp at h
      | some u =>
        rw [h3] at h
        exact ⟨u, rfl, h⟩
theorem apply_mk {v u : PV} {x : PE} (h : VOk v) (he : x.err = 0) (hd : delsV v x.dels = some u) : applyV v x = addsV u x.adds := by
  unfold applyV
  rw [if_neg (by rw [okV_iff.2 h]; decide), if_neg (by omega), hd]
theorem apply_ok {v w : PV} {x : PE} (h : applyV v x = (0, w)) : VOk w ∧ ∀ g, g ∈ w.all ↔ g ∈ x.adds ∨ (g ∈ v.all ∧ ∀ d ∈ x.dels, ¬ Meant d g) := by
  obtain ⟨hv, he, u, hd, ha⟩ := apply_zero h
  obtain ⟨_, _, _, _, _, hde, hae⟩ := PE.err_zero he
  obtain ⟨k1, _, k3⟩ := dels_some hv hde hd
  obtain ⟨q1, q2⟩ := adds_ok k1 hae (by rw [ha])
  rw [ha] at q1 q2
  refine ⟨q1, fun g => ?_⟩
  rw [q2 g, k3 g]
def back (v : PV) (x : PE) : PE := ⟨0, 0, 0, x.adds.map fun f => ⟨f.level, f.num⟩, x.dels.flatMap fun d => (v d.level.toNat).filter fun f => decide (f.num = d.num)⟩
def oneE (f : PF) : PE := ⟨0, 0, 0, [], [f]⟩
theorem oneE_err (f : PF) : (oneE f).err = f.err := by
  unfold PE.err oneE
  rw [if_neg (by simp), if_neg (by simp), if_neg (by simp)]
  simp only [errL]
  by_cases h : f.err = 0
  · simp [h]
  · simp [h]
end Go.Proofs.YtmlfbihlbiikeabGreatDoor
namespace Go.Proofs.YtmlfbihlbiikeabGreatDoor
open Go.RowKit
set_option linter.unusedVariables false
set_option linter.unusedSimpArgs false
abbrev TU : TypeId := 23
abbrev lN (x y : Nat) : Bool := decide (x < y)
theorem swoN : Sort.SWO lN := ⟨fun x => by simp, fun x y z h k => by simp at h k ⊢; omega, fun x y z h k => by simp at h k ⊢; omega⟩
structure Rw (w0 w : World) (g o : Nat) (d : Array Nat) : Prop where
  cell : ∀ t, t < d.size → w.cell? ⟨g, o + t, none⟩ = some (.int .u64 ((d[t]! : Nat) : Int))
  soft : ∀ t, w.frozen? ⟨g, t, none⟩ = false
  chg : Chg (fun k => k = g) w0 w
  shape : ∀ t arr, Box w0 g t arr → ∃ arr', Box w g t arr' ∧ arr'.size = arr.size
theorem Rw.drewN {w0 w : World} {g o : Nat} {d : Array Nat} (h : Rw w0 w g o d) (q : Nat) : Rw w0 (w.drewN q) g o d :=
  ⟨h.cell, h.soft, ⟨h.chg.os, h.chg.tape, h.chg.output, h.chg.size, h.chg.block⟩, h.shape⟩
theorem Rw.alloc {w0 w : World} {g o : Nat} {d : Array Nat} (h : Rw w0 w g o d) (hg : g < w.heap.size) (ob : Obj) : Rw w0 (w.alloc ob) g o d := by
  have hb : (w.alloc ob).heap[g]? = w.heap[g]? := Below.heap_alloc w ob g hg
  refine ⟨fun t ht => ?_, fun t => ?_, h.chg.alloc ob, fun t arr ha => ?_⟩
  · have := h.cell t ht
    unfold World.cell? at this ⊢
    rw [hb]
    exact this
  · have := h.soft t
    unfold World.frozen? at this ⊢
    rw [hb]
    exact this
  · obtain ⟨arr', h1, h2⟩ := h.shape t arr ha
    exact ⟨arr', h1.kept hb, h2⟩
theorem Rw.andThen {w0 w1 w2 : World} {g o : Nat} {d d' : Array Nat} (h : Rw w0 w1 g o d) (k : Rw w1 w2 g o d') : Rw w0 w2 g o d' :=
  ⟨k.cell, k.soft, h.chg.andThen k.chg fun _ _ e => e, fun t arr ha => by
    obtain ⟨a1, h1, h2⟩ := h.shape t arr ha
    obtain ⟨a2, h3, h4⟩ := k.shape t a1 h1
    exact ⟨a2, h3, h4.trans h2⟩⟩
theorem Rw.here {w0 w : World} {g o : Nat} {d : Array Nat} (h : Rw w0 w g o d) : Rw w w g o d := ⟨h.cell, h.soft, Chg.refl _ _, fun t arr ha => ⟨arr, ha, rfl⟩⟩
theorem Rw.kept {w0 w w' : World} {g o : Nat} {d : Array Nat} (h : Rw w0 w g o d) (hb : w'.heap[g]? = w.heap[g]?) (hc : Chg (fun k => k = g) w0 w') : Rw w0 w' g o d := by
  refine ⟨fun t ht => ?_, fun t => ?_, hc, fun t arr ha => ?_⟩
  · have := h.cell t ht
    unfold World.cell? at this ⊢
    rw [hb]
    exact this
  · have := h.soft t
    unfold World.frozen? at this ⊢
    rw [hb]
    exact this
  · obtain ⟨arr', h1, h2⟩ := h.shape t arr ha
    exact ⟨arr', h1.kept hb, h2⟩
theorem cell_set_same {w : World} {g i : Nat} {u v : Value} (h : w.cell? ⟨g, i, none⟩ = some u) : (w.setCell ⟨g, i, none⟩ v).cell? ⟨g, i, none⟩ = some v := by
  obtain ⟨c, e, fr, hb, hc⟩ := Sort.cells_of_cell? h
  have hi : i < c.size := (Array.getElem?_eq_some_iff.1 hc).1
  have hk : g < w.heap.size := (Array.getElem?_eq_some_iff.1 hb).1
  rw [Sort.setCell_eq, Sort.cell?_mapBlock w g i _ hb]
  simp [hi]
theorem cell_set_other {w : World} {g i j : Nat} {v u : Value} (h : w.cell? ⟨g, j, none⟩ = some u) (hne : j ≠ i) : (w.setCell ⟨g, i, none⟩ v).cell? ⟨g, j, none⟩ = some u := by
  obtain ⟨c, e, fr, hb, hc⟩ := Sort.cells_of_cell? h
  rw [Sort.setCell_eq, Sort.cell?_mapBlock w g j _ hb, Array.getElem?_setIfInBounds_ne (fun e => hne e.symm)]
  exact hc
theorem soft_set {w : World} {a : Addr} {g i : Nat} {v : Value} : (w.setCell ⟨g, i, none⟩ v).frozen? a = w.frozen? a := by
  rw [Sort.setCell_eq, Sort.frozen?_mapBlock]
theorem Rw.swap {w0 w : World} {g o : Nat} {d : Array Nat} (h : Rw w0 w g o d) {i j : Nat} (hi : i < d.size) (hj : j < d.size) (q : Nat) :
    Rw w0 (((w.drewN q).setCell ⟨g, o + i, none⟩ (.int .u64 ((d[j]! : Nat) : Int))).setCell ⟨g, o + j, none⟩ (.int .u64 ((d[i]! : Nat) : Int))) g o (Sort.swp d i j) := by
  have h0 := h.drewN q
  generalize w.drewN q = W at h0
  refine ⟨fun t ht => ?_, fun t => ?_, (h0.chg.set (fun _ => rfl) _ _).set (fun _ => rfl) _ _, fun t arr ha => ?_⟩
  · rw [Sort.size_swp] at ht
    by_cases e2 : t = j
    · subst e2
      rw [Sort.swp_right d i t ht]
      by_cases e1 : t = i
      · subst e1
        exact cell_set_same (cell_set_same (h0.cell t ht))
      · exact cell_set_same (cell_set_other (h0.cell t ht) (by omega))
    · by_cases e1 : t = i
      · subst e1
        rw [Sort.swp_left d t j ht e2]
        exact cell_set_other (cell_set_same (h0.cell t ht)) (by omega)
      · rw [Sort.swp_other d i j t e1 e2]
        exact cell_set_other (cell_set_other (h0.cell t ht) (by omega)) (by omega)
  · rw [soft_set, soft_set]
    exact h0.soft t
  · obtain ⟨arr', h1, h2⟩ := h0.shape t arr ha
    exact ⟨_, (h1.set _ _).set _ _, by simp [h2]⟩
theorem Rw.fam {w0 w : World} {g o n : Nat} {d : Array Nat} (h : Rw w0 w g o d) (hn : d.size = n) : ∃ G : Nat → Nat, Hid (∀ t, G t = d[t]!) ∧ (∀ t, t < n → w.cell? ⟨g, o + t, none⟩ = some (.int .u64 ((G t : Nat) : Int))) ∧ (∀ t, t < n → w.frozen? ⟨g, o + t, none⟩ = false) :=
  ⟨fun t => d[t]!, fun _ => rfl, fun t ht => h.cell t (by omega), fun t _ => h.soft _⟩
set_option maxHeartbeats 1000000 in
theorem nan_any (x : Int) (w : World) : Calls Tryz.prog 162 #[.int .u64 x] w fun e w' => e = .returned (.bool false) ∧ w' = w := by
  go_enter Tryz.func162, Tryz.ntmps162
  go_wp2
  go_ret
  exact ⟨by simp, rfl⟩
set_option maxHeartbeats 1000000 in
theorem less_any (x y : Nat) (w : World) : Calls Tryz.prog 170 #[.int .u64 (x : Int), .int .u64 (y : Int)] w fun e w' => e = .returned (.bool (lN x y)) ∧ w' = w := by
  go_enter Tryz.func170, Tryz.ntmps170
  go_wp2_with (go_at_call 162; refine (nan_any _ _).mono ?_; rintro e w' ⟨rfl, rfl⟩)
  go_ret
  exact ⟨by simp, rfl⟩
end Go.Proofs.YtmlfbihlbiikeabGreatDoor
namespace Go.Proofs.YtmlfbihlbiikeabGreatDoor
open Go.RowKit
set_option linter.unusedVariables false
set_option linter.unusedSimpArgs false
abbrev TVn : TypeId := 36
structure SV where
  a : Nat → Option Addr
  c : Nat → Nat
def vA (v : PV) (s : SV) : Array Value := #[.slice (s.a 0) (v 0).length (s.c 0), .slice (s.a 1) (v 1).length (s.c 1), .slice (s.a 2) (v 2).length (s.c 2), .slice (s.a 3) (v 3).length (s.c 3)]
def VnAt (w : World) (v : PV) (s : SV) : Prop := ∀ n, n < 4 → FlAt w (s.a n) (v n).length (s.c n) (v n)
def OwnV (w : World) (B : Nat) (v : PV) (s : SV) : Prop := ∀ n, n < 4 → OwnF w B (s.a n) (v n).length (s.c n) (v n)
def WfV (v : PV) : Prop := ∀ n, n < 4 → ∀ f ∈ v n, WfF f
theorem VnAt.below {w w' : World} {v : PV} {s : SV} (h : VnAt w v s) (hb : Below w.heap.size w w') : VnAt w' v s := fun n hn => (h n hn).below hb
theorem OwnV.at {w : World} {B : Nat} {v : PV} {s : SV} (h : OwnV w B v s) : VnAt w v s := fun n hn => (h n hn).fs
theorem OwnV.below {w w' : World} {B : Nat} {v : PV} {s : SV} (h : OwnV w B v s) (hb : Below w.heap.size w w') : OwnV w' B v s := fun n hn => (h n hn).below hb
def sv0 : SV := ⟨fun _ => none, fun _ => 0⟩
theorem OwnV.none (w : World) (B : Nat) : OwnV w B noV sv0 := fun n _ => OwnF.nil w B
theorem four {P : Nat → Prop} {k : Nat} (hk : k < 4) (h0 : P 0) (h1 : P 1) (h2 : P 2) (h3 : P 3) : P k := by
  have : k = 0 ∨ k = 1 ∨ k = 2 ∨ k = 3 := by omega
  rcases this with rfl | rfl | rfl | rfl
  · exact h0
  · exact h1
  · exact h2
  · exact h3
set_option maxRecDepth 100000 in
theorem idx_arr (v : PV) (s : SV) (k : Nat) (hk : k < 4) (W : World) : (Instr.index 34 (.agg #[.slice (s.a 0) (v 0).length (s.c 0), .slice (s.a 1) (v 1).length (s.c 1), .slice (s.a 2) (v 2).length (s.c 2), .slice (s.a 3) (v 3).length (s.c 3)]) (.int .i64 (k : Int))).run Tryz.prog W = .ok (.slice (s.a k) (v k).length (s.c k)) W := by
  refine four (P := fun k => (Instr.index 34 (.agg #[.slice (s.a 0) (v 0).length (s.c 0), .slice (s.a 1) (v 1).length (s.c 1), .slice (s.a 2) (v 2).length (s.c 2), .slice (s.a 3) (v 3).length (s.c 3)]) (.int .i64 (k : Int))).run Tryz.prog W = .ok (.slice (s.a k) (v k).length (s.c k)) W) hk ?_ ?_ ?_ ?_
  all_goals simp [go_sem, Tryz.underlying34]
  all_goals kernel_rfl
def cellsU (l : List Nat) : List Value := l.map fun (n : Nat) => Value.int .u64 ((n : Nat) : Int)
structure UsAt (w : World) (a : Option Addr) (n c : Nat) (l : List Nat) : Prop where
  size : l.length = n
  row : VsAt 1 w a n c (cellsU l)
structure OwnU (w : World) (B : Nat) (a : Option Addr) (n c : Nat) (l : List Nat) : Prop where
  size : l.length = n
  row : w.ownsRow B TU 1 (.slice a n c) n (cellsU l)
theorem infoU : (Tryz.prog.info? TU).map (fun i => (i.zero, i.size, i.bytes)) = some (some (.int .u64 0), 1, 8) := by kernel_rfl
theorem OwnU.us {w : World} {B : Nat} {a : Option Addr} {n c : Nat} {l : List Nat} (h : OwnU w B a n c l) : UsAt w a n c l := ⟨h.size, VsAt.ofOwn h.row (by simp [cellsU, h.size])⟩
theorem OwnU.nil (w : World) (B : Nat) : OwnU w B none 0 0 [] := ⟨rfl, World.ownsRow_nil _ _ _ 1⟩
theorem OwnU.alloc {w : World} {B : Nat} {a : Option Addr} {n c : Nat} {l : List Nat} (h : OwnU w B a n c l) (o : Obj) : OwnU (w.alloc o) B a n c l := ⟨h.size, h.row.alloc o⟩
theorem OwnU.ge {w : World} {B : Nat} {a : Option Addr} {n c : Nat} {l : List Nat} (h : OwnU w B a n c l) {k : Nat} (hk : blkOf a = some k) : B ≤ k := (h.row.lt k (by rw [own_blk]; exact hk)).1
theorem UsAt.one (W : World) (x : Nat) : UsAt (W.alloc (.cells #[.int .u64 (x : Int)] TU)) (some ⟨W.heap.size, 0, none⟩) 1 1 [x] := by
  refine ⟨rfl, rfl, Nat.le_refl _, by unfold maxLen; omega, by simp, fun _ => ⟨W.heap.size, 0, rfl, fun j hj => ?_⟩⟩
  rw [Nat.zero_add, (Box.new W TU #[.int .u64 (x : Int)]).cell, ← Array.getElem?_toList]
  simp [cellsU]
theorem cellsU_one (l : List Nat) : ∀ u ∈ cellsU l, u.oneCell' = true := by
  intro u hu
  obtain ⟨_, _, rfl⟩ := List.mem_map.1 hu
  rfl
theorem wpList_appU (w : World) {ops : Array Oper} {rest : List Oper} {o : Oper} {a : Act} {Q : Exit → Act → World → Prop} (hgd : o.guard = none) (s x : Operand)
    (ho : o.op = .call { callee := .builtin .append, args := #[s, x], argTypes := #[128, 128] })
    (B : Nat) (a1 : Option Addr) (n1 c1 : Nat) (l : List Nat) (hs : a.eval s = .slice a1 n1 c1) (hown : OwnU w B a1 n1 c1 l)
    (a2 : Option Addr) (n2 c2 : Nat) (m : List Nat) (hx : a.eval x = .slice a2 n2 c2) (hsrc : UsAt w a2 n2 c2 m)
    (hb : (n1 + n2) * 8 ≤ 140737488355328) (hB : B ≤ w.heap.size)
    (h : ∀ a' c' w', OwnU w' B a' (n1 + n2) c' (l ++ m) → Below B w w' → w.grownBy w' (blkOf a1) → wpList Tryz.prog ops Q rest (a.put o.dst (.slice a' (n1 + n2) c')) w') :
    wpList Tryz.prog ops Q (o :: rest) a w := by
  have hm := hsrc.size
  have hl := hown.size
  refine wpList_appV w hgd s x _ TU ho Tryz.underlying128 _ 1 8 infoU rfl (by decide) B a1 n1 c1 _ hs hown.row a2 n2 c2 (cellsU m) hx (fun e => ?_) (by simp [cellsU, hm]) hsrc.row.src (cellsU_one m) (by unfold maxLen; omega) hb hB (fun a' c' w' hr hb hg => h a' c' w' ⟨by rw [List.length_append]; omega, by rw [cellsU, List.map_append]; exact hr⟩ hb hg)
  have := hsrc.row.bare e
  have := hsrc.row.le
  omega
theorem UsAt.at {w : World} {a : Option Addr} {n c : Nat} {l : List Nat} (h : UsAt w a n c l) {k : Nat} (hk : k < l.length) : ∃ b o : Nat, (∀ W : World, (Instr.indexAt 128 (.slice a n c) (.int .i64 (k : Int))).run Tryz.prog W = .ok (.pointer (some ⟨b, o, none⟩)) W) ∧ b < w.heap.size ∧ (∀ W : World, Below w.heap.size w W → W.cell? ⟨b, o, none⟩ = some (.int .u64 (l[k] : Int))) := by
  have hs := h.size
  obtain ⟨b, off, rfl, hc⟩ := h.row.here (by omega)
  have e0 := hc k (by omega)
  have e1 : (cellsU l)[k]? = some (.int .u64 (l[k] : Int)) := by simp [cellsU, hk]
  rw [e1] at e0
  have hlt : b < w.heap.size := World.block_lt_of_cell? w _ e0
  refine ⟨b, off + k, fun W => ?_, hlt, fun W hW => by rw [hW.cell hlt]; exact e0⟩
  have h1 : (0 : Int) ≤ (k : Int) ∧ (k : Int) < (n : Int) := by omega
  have hsz : (sizeOf (Tryz.prog.elem 128)).run Tryz.prog W = .ok 1 W := by kernel_rfl
  rw [run_indexAt_slice (P := Tryz.prog) (h := (by kernel_rfl : Tryz.prog.underlying 128 = some (.slice (Tryz.prog.elem 128)))), if_pos h1, hsz]
  simp [Result.andThen, Addr.add_lit]
theorem Box.fourV {w : World} {p : Nat} {t : TypeId} {v : PV} {s : SV} (h : Box w p t (vA v s)) : w.cell? ⟨p, 0, none⟩ = some (.slice (s.a 0) (v 0).length (s.c 0)) ∧ w.cell? ⟨p, 1, none⟩ = some (.slice (s.a 1) (v 1).length (s.c 1)) ∧ w.cell? ⟨p, 2, none⟩ = some (.slice (s.a 2) (v 2).length (s.c 2)) ∧ w.cell? ⟨p, 3, none⟩ = some (.slice (s.a 3) (v 3).length (s.c 3)) := ⟨h.cell 0, h.cell 1, h.cell 2, h.cell 3⟩
structure Bel (w : World) where
  now : World
  h : Below w.heap.size w now
theorem wp_region_bel {id : Nat} {Q : Exit → Act → World → Prop} {a : Act} {w : World} {l : List Oper} (hm : Tryz.prog.follows .mixedOrders = true) (hB : Region.lexB .any l.toArray = true)
    (h : wpQuiet Tryz.prog l.toArray (fun w' => ∃ p : Bel w, w' = p.now) (fun a' => ∀ w', (∃ p : Bel w, w' = p.now) → Q .normal a' w') l a) : (Code.region id l.toArray true).wp Tryz.prog Q a w :=
  wp_region_quiet (C := fun w' => ∃ p : Bel w, w' = p.now) hm hB ⟨⟨w.drew, (Below.refl _ _).drew⟩, rfl⟩ (by simpa using h)
theorem bel_call {f : FuncId} {args : Array Value} {w : World} {v : Value} {p : Bel w} (h : Calls Tryz.prog f args p.now fun e x => e = .returned v ∧ Below p.now.heap.size p.now x) : Calls Tryz.prog f args p.now fun e x => e = .returned v ∧ ∃ p' : Bel w, x = p'.now :=
  h.mono fun _ x ⟨he, hb⟩ => ⟨he, ⟨x, p.h.trans (hb.mono p.h.size)⟩, rfl⟩
end Go.Proofs.YtmlfbihlbiikeabGreatDoor
namespace Go.Proofs.YtmlfbihlbiikeabGreatDoor
set_option maxRecDepth 100000
open Go.ChangeShapes Go.WideShapes Go.RowKit
set_option linter.unusedVariables false
set_option linter.unusedSimpArgs false
theorem bytes_e : Tryz.prog.bytesOf TE = 72 := by kernel_rfl
def ec (p : PE × SE) : List Value := [.int .u64 (p.1.log : Int), .int .u64 (p.1.next : Int), .int .u64 (p.1.last : Int), .slice p.2.a p.1.dels.length p.2.c, .slice p.2.a' p.1.adds.length p.2.c']
theorem ec_len (p : PE × SE) : (ec p).length = 5 := rfl
structure EsAt (w : World) (a : Option Addr) (n c : Nat) (l : List (PE × SE)) : Prop where
  size : l.length = n
  row : VsAt 5 w a n c (l.flatMap ec)
  each : ∀ e ∈ l, EdAt w e.1 e.2 ∧ WfE e.1 ∧ e.1.dels.length * 16 ≤ 140737488351232 ∧ e.1.adds.length * 88 ≤ 140737488351232
section
variable {H : Type} {enc : TypeId × Value → H} {w : World} {base : Nat} {sp : Nat → Bool} {held : Bool}
theorem open_e {n : Nat} {cs : List Value} {y : DataW H × List MemPlace} (h : DataW.trod enc Tryz.prog w base sp held n TE cs = some y) (hw : ∀ n ∈ y.1.weights Tryz.prog TE, n ≤ 140737488351232) :
    ∃ (x : PE) (s : SE), cs = ec (x, s) ∧ EdAt w x s ∧ WfE x ∧ x.dels.length * 16 ≤ 140737488351232 ∧ x.adds.length * 88 ≤ 140737488351232 := by
  obtain ⟨y0, y1, y2, y3, y4, m, hy, hl, h0, h1, h2, h3, h4⟩ := struct5 Tryz.underlying27 h
  rw [cells_e] at hl
  match cs, hl with
  | [c0, c1, c2, c3, c4], _ =>
  rw [hy] at hw
  simp only [DataW.weights, Tryz.underlying27] at hw
  obtain ⟨q0, e0, _, w0⟩ := DataW.trod_int Tryz.underlying23 h0
  obtain ⟨q1, e1, _, w1⟩ := DataW.trod_int Tryz.underlying23 h1
  obtain ⟨q2, e2, _, w2⟩ := DataW.trod_int Tryz.underlying23 h2
  obtain ⟨a, n, c, gl, e3, hg, hgb⟩ := open_gs h3 (fun n hn => hw n (DataW.weights_mem_each (j := 3) (t := 24) (d := y3.1) rfl rfl _ hn))
  obtain ⟨a', n', c', fl, e4, hfl, hfb, hfw⟩ := open_fs h4 (fun n hn => hw n (DataW.weights_mem_each (j := 4) (t := 25) (d := y4.1) rfl rfl _ hn))
  simp [cells_u1, cells_sg, cells_sf] at e0 e1 e2 e3 e4
  subst e0 e1 e2 e3 e4
  obtain rfl := hg.size
  obtain rfl := hfl.size
  refine ⟨⟨q0.toNat, q1.toNat, q2.toNat, gl, fl⟩, ⟨a, c, a', c'⟩, ?_, ⟨hg, hfl⟩, hfw, hgb, hfb⟩
  unfold ec
  simp only
  rw [← u64_nat w0, ← u64_nat w1, ← u64_nat w2]
theorem open_edits {fuel : Nat} {cs : List Value} {x : DataW H × List MemPlace} (h : DataW.trod enc Tryz.prog w base sp held fuel 22 cs = some x) (hw : ∀ n ∈ x.1.weights Tryz.prog 22, n ≤ 140737488351232) :
    ∃ (a : Option Addr) (len cap : Nat) (l : List (PE × SE)), cs = [.slice a len cap] ∧ EsAt w a len cap l ∧ len * 72 ≤ 140737488351232 := by
  rcases Go.Deep.open_slice Tryz.underlying22 h with ⟨h0, rfl⟩ | ⟨a, len, cap, m, n, D, Pl, rfl, hb, hl, hm, hmm, rfl, hx⟩
  · exact ⟨none, 0, 0, [], h0, ⟨rfl, VsAt.nil _ _, by simp⟩, by omega⟩
  have hlm : len ≤ m := by rw [hmm]; split <;> omega
  simp only [DataW.weights, Tryz.underlying22] at hw
  obtain ⟨l, hll, hall⟩ := collect (fun i (e : PE × SE) => (∀ r, r < 5 → w.cell? (a.add (i * 5 + r)) = (ec e)[r]?) ∧ EdAt w e.1 e.2 ∧ WfE e.1 ∧ e.1.dels.length * 16 ≤ 140737488351232 ∧ e.1.adds.length * 88 ≤ 140737488351232) len (fun i hi => by
    obtain ⟨cs', h1, h2⟩ := hx i (by omega)
    have h1' : w.cells? base (a.add (i * 5)) 5 = some cs' := by
      rw [show Tryz.prog.cellsOf 27 = 5 from cells_e] at h1
      exact h1
    obtain ⟨_, _, hcell⟩ := World.cells?_some h1'
    have hmem : D i ∈ (List.range len).map D := List.mem_map.2 ⟨i, by simpa using hi, rfl⟩
    obtain ⟨x, s, rfl, g1, g2, g3, g4⟩ := open_e h2 (fun n hn => hw n (List.mem_cons_of_mem _ (List.mem_append_left _ (weightsAll_mem hmem hn))))
    refine ⟨(x, s), fun r hr => ?_, g1, g2, g3, g4⟩
    have e0 := hcell r hr
    rw [Go.Deep.add_add] at e0
    rw [e0])
  refine ⟨some a, len, cap, l, rfl, ⟨hll, ⟨by rw [flat_len ec_len, hll], hl, hm, by simp, fun hp => ?_⟩, fun e he => ?_⟩, ?_⟩
  · obtain ⟨b, off, spot⟩ := a
    have h0 := (hall 0 (by omega)).1 0 (by omega)
    have hspot : spot = none := by
      have : w.cell? ((⟨b, off, spot⟩ : Addr).add (0 * 5 + 0)) = some (.int .u64 (((l[0]'(by omega)).1.log : Nat) : Int)) := h0
      simpa [Addr.add] using World.cell?_spot this
    subst hspot
    refine ⟨b, off, rfl, fun j hj => ?_⟩
    have hd : j / 5 < l.length := by omega
    have hg := (hall (j / 5) hd).1 (j % 5) (by omega)
    rw [Addr.add_lit, show j / 5 * 5 + j % 5 = j by omega] at hg
    rw [hg, ← flat_get ec_len l (j / 5) (j % 5) hd (by omega), show j / 5 * 5 + j % 5 = j by omega]
  · obtain ⟨i, hi, rfl⟩ := List.mem_iff_getElem.1 he
    exact (hall i hi).2
  · have := hw _ (List.mem_cons_self ..)
    rw [show Tryz.prog.bytesOf 27 = 72 from bytes_e] at this
    simp at this
    omega
end
end Go.Proofs.YtmlfbihlbiikeabGreatDoor
