/- What is taken away and laid again is as it was; files laid in whatever order are the same: plainly. -/
import Derived.Test.YtmlfbihlbiikeaaGreatDoorQa06
import Derived.Test.YtmlfbihlbiikeaaGreatDoorChecked
import Derived.Test.YtmlfbihlbiikeaaGreatDoorQa01
import Derived.Sort.AssemblyPlain
import Derived.Sort.Row
import Derived.WalkKit
import Derived.BigQuiet
import Derived.CellFam
import Derived.BigCall
import Derived.Deep.LoopGhost
import Derived.Deep.QuietTactic
namespace Go.Proofs.YtmlfbihlbiikeaaGreatDoor
set_option linter.unusedVariables false
set_option linter.unusedSimpArgs false
theorem err_mk14 {x : PE} (h1 : x.dels.length ≤ 20000) (h2 : x.adds.length ≤ 100) (h3 : x.log ≤ 1099511627776) (h4 : x.next ≤ 1099511627776) (h5 : x.last ≤ 72057594037927935) (h6 : ∀ g ∈ x.dels, g.err = 0) (h7 : ∀ f ∈ x.adds, f.err = 0) : x.err = 0 := by
  unfold PE.err
  rw [if_neg (by omega), if_neg (by omega), if_neg (by omega), errL_zero.2 h6, errL_zero.2 h7]
  rfl
theorem VOk.none : VOk noV := by
  refine ⟨fun n hn => ⟨fun f hf => absurd hf (by simp [noV]), List.Pairwise.nil⟩, ?_⟩
  simp [PV.all, noV]
theorem apply_zero {v w : PV} {x : PE} (h : applyV v x = (0, w)) : VOk v ∧ x.err = 0 ∧ ∃ u, delsV v x.dels = some u ∧ addsV u x.adds = (0, w) := by
  unfold applyV at h
  by_cases h1 : okV v = false
  · rw [if_pos h1] at h
    cases h
  · rw [if_neg h1] at h
    by_cases h2 : x.err ≠ 0
    · rw [if_pos h2] at h
      simp only [Prod.mk.injEq] at h
      exact absurd h.1 h2
    · rw [if_neg h2] at h
      refine ⟨okV_iff.1 (by simpa using h1), by omega, ?_⟩
      cases h3 : delsV v x.dels with
      | none =>
        rw [h3] at h
        simp at h
      | some u =>
        rw [h3] at h
        exact ⟨u, rfl, h⟩
theorem apply_mk {v u : PV} {x : PE} (h : VOk v) (he : x.err = 0) (hd : delsV v x.dels = some u) : applyV v x = addsV u x.adds := by
  unfold applyV
  rw [if_neg (by rw [okV_iff.2 h]; decide), if_neg (by omega), hd]
theorem apply_ok {v w : PV} {x : PE} (h : applyV v x = (0, w)) : VOk w ∧ ∀ g, g ∈ w.all ↔ g ∈ x.adds ∨ (g ∈ v.all ∧ ∀ d ∈ x.dels, ¬ Meant d g) := by
  obtain ⟨hv, he, u, hd, ha⟩ := apply_zero h
  obtain ⟨_, _, _, _, _, hde, hae⟩ := PE.err_zero he
  obtain ⟨k1, _, k3⟩ := dels_some hv hde hd
  obtain ⟨q1, q2⟩ := adds_ok k1 hae (by rw [ha])
  rw [ha] at q1 q2
  refine ⟨q1, fun g => ?_⟩
  rw [q2 g, k3 g]
def back (v : PV) (x : PE) : PE := ⟨0, 0, 0, x.adds.map fun f => ⟨f.level, f.num⟩, x.dels.flatMap fun d => (v d.level.toNat).filter fun f => decide (f.num = d.num)⟩
def oneE (f : PF) : PE := ⟨0, 0, 0, [], [f]⟩
theorem oneE_err (f : PF) : (oneE f).err = f.err := by
  unfold PE.err oneE
  rw [if_neg (by simp), if_neg (by simp), if_neg (by simp)]
  simp only [errL]
  by_cases h : f.err = 0
  · simp [h]
  · simp [h]
end Go.Proofs.YtmlfbihlbiikeaaGreatDoor
namespace Go.Proofs.YtmlfbihlbiikeaaGreatDoor
open Go.RowKit
set_option linter.unusedVariables false
set_option linter.unusedSimpArgs false
abbrev TU : TypeId := 23
abbrev lN (x y : Nat) : Bool := decide (x < y)
theorem swoN : Sort.SWO lN := ⟨fun x => by simp, fun x y z h k => by simp at h k ⊢; omega, fun x y z h k => by simp at h k ⊢; omega⟩
structure Rw (w0 w : World) (g o : Nat) (d : Array Nat) : Prop where
  cell : ∀ t, t < d.size → w.cell? ⟨g, o + t, none⟩ = some (.int .u64 ((d[t]! : Nat) : Int))
  soft : ∀ t, w.frozen? ⟨g, t, none⟩ = false
  chg : Chg (fun k => k = g) w0 w
  shape : ∀ t arr, Box w0 g t arr → ∃ arr', Box w g t arr' ∧ arr'.size = arr.size
theorem Rw.drewN {w0 w : World} {g o : Nat} {d : Array Nat} (h : Rw w0 w g o d) (q : Nat) : Rw w0 (w.drewN q) g o d :=
  ⟨h.cell, h.soft, ⟨h.chg.os, h.chg.tape, h.chg.output, h.chg.size, h.chg.block⟩, h.shape⟩
theorem Rw.alloc {w0 w : World} {g o : Nat} {d : Array Nat} (h : Rw w0 w g o d) (hg : g < w.heap.size) (ob : Obj) : Rw w0 (w.alloc ob) g o d := by
  have hb : (w.alloc ob).heap[g]? = w.heap[g]? := Below.heap_alloc w ob g hg
  refine ⟨fun t ht => ?_, fun t => ?_, h.chg.alloc ob, fun t arr ha => ?_⟩
  · have := h.cell t ht
    unfold World.cell? at this ⊢
    rw [hb]
    exact this
  · have := h.soft t
    unfold World.frozen? at this ⊢
    rw [hb]
    exact this
  · obtain ⟨arr', h1, h2⟩ := h.shape t arr ha
    exact ⟨arr', h1.kept hb, h2⟩
theorem Rw.andThen {w0 w1 w2 : World} {g o : Nat} {d d' : Array Nat} (h : Rw w0 w1 g o d) (k : Rw w1 w2 g o d') : Rw w0 w2 g o d' :=
  ⟨k.cell, k.soft, h.chg.andThen k.chg fun _ _ e => e, fun t arr ha => by
    obtain ⟨a1, h1, h2⟩ := h.shape t arr ha
    obtain ⟨a2, h3, h4⟩ := k.shape t a1 h1
    exact ⟨a2, h3, h4.trans h2⟩⟩
theorem Rw.here {w0 w : World} {g o : Nat} {d : Array Nat} (h : Rw w0 w g o d) : Rw w w g o d := ⟨h.cell, h.soft, Chg.refl _ _, fun t arr ha => ⟨arr, ha, rfl⟩⟩
theorem Rw.kept {w0 w w' : World} {g o : Nat} {d : Array Nat} (h : Rw w0 w g o d) (hb : w'.heap[g]? = w.heap[g]?) (hc : Chg (fun k => k = g) w0 w') : Rw w0 w' g o d := by
  refine ⟨fun t ht => ?_, fun t => ?_, hc, fun t arr ha => ?_⟩
  · have := h.cell t ht
    unfold World.cell? at this ⊢
    rw [hb]
    exact this
  · have := h.soft t
    unfold World.frozen? at this ⊢
    rw [hb]
    exact this
  · obtain ⟨arr', h1, h2⟩ := h.shape t arr ha
    exact ⟨arr', h1.kept hb, h2⟩
theorem cell_set_same {w : World} {g i : Nat} {u v : Value} (h : w.cell? ⟨g, i, none⟩ = some u) : (w.setCell ⟨g, i, none⟩ v).cell? ⟨g, i, none⟩ = some v := by
  obtain ⟨c, e, fr, hb, hc⟩ := Sort.cells_of_cell? h
  have hi : i < c.size := (Array.getElem?_eq_some_iff.1 hc).1
  have hk : g < w.heap.size := (Array.getElem?_eq_some_iff.1 hb).1
  rw [Sort.setCell_eq, Sort.cell?_mapBlock w g i _ hb]
  simp [hi]
theorem cell_set_other {w : World} {g i j : Nat} {v u : Value} (h : w.cell? ⟨g, j, none⟩ = some u) (hne : j ≠ i) : (w.setCell ⟨g, i, none⟩ v).cell? ⟨g, j, none⟩ = some u := by
  obtain ⟨c, e, fr, hb, hc⟩ := Sort.cells_of_cell? h
  rw [Sort.setCell_eq, Sort.cell?_mapBlock w g j _ hb, Array.getElem?_setIfInBounds_ne (fun e => hne e.symm)]
  exact hc
theorem soft_set {w : World} {a : Addr} {g i : Nat} {v : Value} : (w.setCell ⟨g, i, none⟩ v).frozen? a = w.frozen? a := by
  rw [Sort.setCell_eq, Sort.frozen?_mapBlock]
theorem Rw.swap {w0 w : World} {g o : Nat} {d : Array Nat} (h : Rw w0 w g o d) {i j : Nat} (hi : i < d.size) (hj : j < d.size) (q : Nat) :
    Rw w0 (((w.drewN q).setCell ⟨g, o + i, none⟩ (.int .u64 ((d[j]! : Nat) : Int))).setCell ⟨g, o + j, none⟩ (.int .u64 ((d[i]! : Nat) : Int))) g o (Sort.swp d i j) := by
  have h0 := h.drewN q
  generalize w.drewN q = W at h0
  refine ⟨fun t ht => ?_, fun t => ?_, (h0.chg.set (fun _ => rfl) _ _).set (fun _ => rfl) _ _, fun t arr ha => ?_⟩
  · rw [Sort.size_swp] at ht
    by_cases e2 : t = j
    · subst e2
      rw [Sort.swp_right d i t ht]
      by_cases e1 : t = i
      · subst e1
        exact cell_set_same (cell_set_same (h0.cell t ht))
      · exact cell_set_same (cell_set_other (h0.cell t ht) (by omega))
    · by_cases e1 : t = i
      · subst e1
        rw [Sort.swp_left d t j ht e2]
        exact cell_set_other (cell_set_same (h0.cell t ht)) (by omega)
      · rw [Sort.swp_other d i j t e1 e2]
        exact cell_set_other (cell_set_other (h0.cell t ht) (by omega)) (by omega)
  · rw [soft_set, soft_set]
    exact h0.soft t
  · obtain ⟨arr', h1, h2⟩ := h0.shape t arr ha
    exact ⟨_, (h1.set _ _).set _ _, by simp [h2]⟩
theorem Rw.fam {w0 w : World} {g o n : Nat} {d : Array Nat} (h : Rw w0 w g o d) (hn : d.size = n) : ∃ G : Nat → Nat, Hid (∀ t, G t = d[t]!) ∧ (∀ t, t < n → w.cell? ⟨g, o + t, none⟩ = some (.int .u64 ((G t : Nat) : Int))) ∧ (∀ t, t < n → w.frozen? ⟨g, o + t, none⟩ = false) :=
  ⟨fun t => d[t]!, fun _ => rfl, fun t ht => h.cell t (by omega), fun t _ => h.soft _⟩
set_option maxHeartbeats 1000000 in
theorem nan_any (x : Int) (w : World) : Calls Tryz.prog 266 #[.int .u64 x] w fun e w' => e = .returned (.bool false) ∧ w' = w := by
  go_enter Tryz.func266, Tryz.ntmps266
  go_wp2
  go_ret
  exact ⟨by simp, rfl⟩
set_option maxHeartbeats 1000000 in
theorem less_any (x y : Nat) (w : World) : Calls Tryz.prog 248 #[.int .u64 (x : Int), .int .u64 (y : Int)] w fun e w' => e = .returned (.bool (lN x y)) ∧ w' = w := by
  go_enter Tryz.func248, Tryz.ntmps248
  go_wp2_with (go_at_call 266; refine (nan_any _ _).mono ?_; rintro e w' ⟨rfl, rfl⟩)
  go_ret
  exact ⟨by simp, rfl⟩
end Go.Proofs.YtmlfbihlbiikeaaGreatDoor
namespace Go.Proofs.YtmlfbihlbiikeaaGreatDoor
open Go.RowKit
set_option linter.unusedVariables false
set_option linter.unusedSimpArgs false
abbrev TVn : TypeId := 44
structure SV where
  a : Nat → Option Addr
  c : Nat → Nat
def vA (v : PV) (s : SV) : Array Value := #[.slice (s.a 0) (v 0).length (s.c 0), .slice (s.a 1) (v 1).length (s.c 1), .slice (s.a 2) (v 2).length (s.c 2), .slice (s.a 3) (v 3).length (s.c 3)]
def VnAt (w : World) (v : PV) (s : SV) : Prop := ∀ n, n < 4 → FlAt w (s.a n) (v n).length (s.c n) (v n)
def OwnV (w : World) (B : Nat) (v : PV) (s : SV) : Prop := ∀ n, n < 4 → OwnF w B (s.a n) (v n).length (s.c n) (v n)
def WfV (v : PV) : Prop := ∀ n, n < 4 → ∀ f ∈ v n, WfF f
theorem VnAt.below {w w' : World} {v : PV} {s : SV} (h : VnAt w v s) (hb : Below w.heap.size w w') : VnAt w' v s := fun n hn => (h n hn).below hb
theorem OwnV.at {w : World} {B : Nat} {v : PV} {s : SV} (h : OwnV w B v s) : VnAt w v s := fun n hn => (h n hn).fs
theorem OwnV.below {w w' : World} {B : Nat} {v : PV} {s : SV} (h : OwnV w B v s) (hb : Below w.heap.size w w') : OwnV w' B v s := fun n hn => (h n hn).below hb
def sv0 : SV := ⟨fun _ => none, fun _ => 0⟩
theorem OwnV.none (w : World) (B : Nat) : OwnV w B noV sv0 := fun n _ => OwnF.nil w B
theorem four {P : Nat → Prop} {k : Nat} (hk : k < 4) (h0 : P 0) (h1 : P 1) (h2 : P 2) (h3 : P 3) : P k := by
  have : k = 0 ∨ k = 1 ∨ k = 2 ∨ k = 3 := by omega
  rcases this with rfl | rfl | rfl | rfl
  · exact h0
  · exact h1
  · exact h2
  · exact h3
set_option maxRecDepth 100000 in
theorem idx_arr (v : PV) (s : SV) (k : Nat) (hk : k < 4) (W : World) : (Instr.index 42 (.agg #[.slice (s.a 0) (v 0).length (s.c 0), .slice (s.a 1) (v 1).length (s.c 1), .slice (s.a 2) (v 2).length (s.c 2), .slice (s.a 3) (v 3).length (s.c 3)]) (.int .i64 (k : Int))).run Tryz.prog W = .ok (.slice (s.a k) (v k).length (s.c k)) W := by
  refine four (P := fun k => (Instr.index 42 (.agg #[.slice (s.a 0) (v 0).length (s.c 0), .slice (s.a 1) (v 1).length (s.c 1), .slice (s.a 2) (v 2).length (s.c 2), .slice (s.a 3) (v 3).length (s.c 3)]) (.int .i64 (k : Int))).run Tryz.prog W = .ok (.slice (s.a k) (v k).length (s.c k)) W) hk ?_ ?_ ?_ ?_
  all_goals simp [go_sem, Tryz.underlying42]
  all_goals kernel_rfl
def cellsU (l : List Nat) : List Value := l.map fun (n : Nat) => Value.int .u64 ((n : Nat) : Int)
structure UsAt (w : World) (a : Option Addr) (n c : Nat) (l : List Nat) : Prop where
  size : l.length = n
  row : VsAt 1 w a n c (cellsU l)
structure OwnU (w : World) (B : Nat) (a : Option Addr) (n c : Nat) (l : List Nat) : Prop where
  size : l.length = n
  row : w.ownsRow B TU 1 (.slice a n c) n (cellsU l)
theorem infoU : (Tryz.prog.info? TU).map (fun i => (i.zero, i.size, i.bytes)) = some (some (.int .u64 0), 1, 8) := by kernel_rfl
theorem OwnU.us {w : World} {B : Nat} {a : Option Addr} {n c : Nat} {l : List Nat} (h : OwnU w B a n c l) : UsAt w a n c l := ⟨h.size, VsAt.ofOwn h.row (by simp [cellsU, h.size])⟩
theorem OwnU.nil (w : World) (B : Nat) : OwnU w B none 0 0 [] := ⟨rfl, World.ownsRow_nil _ _ _ 1⟩
theorem OwnU.alloc {w : World} {B : Nat} {a : Option Addr} {n c : Nat} {l : List Nat} (h : OwnU w B a n c l) (o : Obj) : OwnU (w.alloc o) B a n c l := ⟨h.size, h.row.alloc o⟩
theorem OwnU.ge {w : World} {B : Nat} {a : Option Addr} {n c : Nat} {l : List Nat} (h : OwnU w B a n c l) {k : Nat} (hk : blkOf a = some k) : B ≤ k := (h.row.lt k (by rw [own_blk]; exact hk)).1
theorem UsAt.one (W : World) (x : Nat) : UsAt (W.alloc (.cells #[.int .u64 (x : Int)] TU)) (some ⟨W.heap.size, 0, none⟩) 1 1 [x] := by
  refine ⟨rfl, rfl, Nat.le_refl _, by unfold maxLen; omega, by simp, fun _ => ⟨W.heap.size, 0, rfl, fun j hj => ?_⟩⟩
  rw [Nat.zero_add, (Box.new W TU #[.int .u64 (x : Int)]).cell, ← Array.getElem?_toList]
  simp [cellsU]
theorem cellsU_one (l : List Nat) : ∀ u ∈ cellsU l, u.oneCell' = true := by
  intro u hu
  obtain ⟨_, _, rfl⟩ := List.mem_map.1 hu
  rfl
theorem wpList_appU (w : World) {ops : Array Oper} {rest : List Oper} {o : Oper} {a : Act} {Q : Exit → Act → World → Prop} (hgd : o.guard = none) (s x : Operand)
    (ho : o.op = .call { callee := .builtin .append, args := #[s, x], argTypes := #[175, 175] })
    (B : Nat) (a1 : Option Addr) (n1 c1 : Nat) (l : List Nat) (hs : a.eval s = .slice a1 n1 c1) (hown : OwnU w B a1 n1 c1 l)
    (a2 : Option Addr) (n2 c2 : Nat) (m : List Nat) (hx : a.eval x = .slice a2 n2 c2) (hsrc : UsAt w a2 n2 c2 m)
    (hb : (n1 + n2) * 8 ≤ 140737488355328) (hB : B ≤ w.heap.size)
    (h : ∀ a' c' w', OwnU w' B a' (n1 + n2) c' (l ++ m) → Below B w w' → w.grownBy w' (blkOf a1) → wpList Tryz.prog ops Q rest (a.put o.dst (.slice a' (n1 + n2) c')) w') :
    wpList Tryz.prog ops Q (o :: rest) a w := by
  have hm := hsrc.size
  have hl := hown.size
  refine wpList_appV w hgd s x _ TU ho Tryz.underlying175 _ 1 8 infoU rfl (by decide) B a1 n1 c1 _ hs hown.row a2 n2 c2 (cellsU m) hx (fun e => ?_) (by simp [cellsU, hm]) hsrc.row.src (cellsU_one m) (by unfold maxLen; omega) hb hB (fun a' c' w' hr hb hg => h a' c' w' ⟨by rw [List.length_append]; omega, by rw [cellsU, List.map_append]; exact hr⟩ hb hg)
  have := hsrc.row.bare e
  have := hsrc.row.le
  omega
theorem UsAt.at {w : World} {a : Option Addr} {n c : Nat} {l : List Nat} (h : UsAt w a n c l) {k : Nat} (hk : k < l.length) : ∃ b o : Nat, (∀ W : World, (Instr.indexAt 175 (.slice a n c) (.int .i64 (k : Int))).run Tryz.prog W = .ok (.pointer (some ⟨b, o, none⟩)) W) ∧ b < w.heap.size ∧ (∀ W : World, Below w.heap.size w W → W.cell? ⟨b, o, none⟩ = some (.int .u64 (l[k] : Int))) := by
  have hs := h.size
  obtain ⟨b, off, rfl, hc⟩ := h.row.here (by omega)
  have e0 := hc k (by omega)
  have e1 : (cellsU l)[k]? = some (.int .u64 (l[k] : Int)) := by simp [cellsU, hk]
  rw [e1] at e0
  have hlt : b < w.heap.size := World.block_lt_of_cell? w _ e0
  refine ⟨b, off + k, fun W => ?_, hlt, fun W hW => by rw [hW.cell hlt]; exact e0⟩
  have h1 : (0 : Int) ≤ (k : Int) ∧ (k : Int) < (n : Int) := by omega
  have hsz : (sizeOf (Tryz.prog.elem 175)).run Tryz.prog W = .ok 1 W := by kernel_rfl
  rw [run_indexAt_slice (P := Tryz.prog) (h := (by kernel_rfl : Tryz.prog.underlying 175 = some (.slice (Tryz.prog.elem 175)))), if_pos h1, hsz]
  simp [Result.andThen, Addr.add_lit]
theorem Box.fourV {w : World} {p : Nat} {t : TypeId} {v : PV} {s : SV} (h : Box w p t (vA v s)) : w.cell? ⟨p, 0, none⟩ = some (.slice (s.a 0) (v 0).length (s.c 0)) ∧ w.cell? ⟨p, 1, none⟩ = some (.slice (s.a 1) (v 1).length (s.c 1)) ∧ w.cell? ⟨p, 2, none⟩ = some (.slice (s.a 2) (v 2).length (s.c 2)) ∧ w.cell? ⟨p, 3, none⟩ = some (.slice (s.a 3) (v 3).length (s.c 3)) := ⟨h.cell 0, h.cell 1, h.cell 2, h.cell 3⟩
structure Bel (w : World) where
  now : World
  h : Below w.heap.size w now
theorem wp_region_bel {id : Nat} {Q : Exit → Act → World → Prop} {a : Act} {w : World} {l : List Oper} (hm : Tryz.prog.follows .mixedOrders = true) (hB : Region.lexB .any l.toArray = true)
    (h : wpQuiet Tryz.prog l.toArray (fun w' => ∃ p : Bel w, w' = p.now) (fun a' => ∀ w', (∃ p : Bel w, w' = p.now) → Q .normal a' w') l a) : (Code.region id l.toArray true).wp Tryz.prog Q a w :=
  wp_region_quiet (C := fun w' => ∃ p : Bel w, w' = p.now) hm hB ⟨⟨w.drew, (Below.refl _ _).drew⟩, rfl⟩ (by simpa using h)
theorem bel_call {f : FuncId} {args : Array Value} {w : World} {v : Value} {p : Bel w} (h : Calls Tryz.prog f args p.now fun e x => e = .returned v ∧ Below p.now.heap.size p.now x) : Calls Tryz.prog f args p.now fun e x => e = .returned v ∧ ∃ p' : Bel w, x = p'.now :=
  h.mono fun _ x ⟨he, hb⟩ => ⟨he, ⟨x, p.h.trans (hb.mono p.h.size)⟩, rfl⟩
end Go.Proofs.YtmlfbihlbiikeaaGreatDoor
namespace Go.Proofs.YtmlfbihlbiikeaaGreatDoor
open Go.RowKit
set_option linter.unusedVariables false
set_option linter.unusedSimpArgs false
abbrev TFi : TypeId := 182
set_option maxRecDepth 100000 in
set_option maxHeartbeats 1000000 in
theorem newer_any (f g : PF) (w : World) : Calls Tryz.prog 166 #[.agg #[.int .i64 f.level, .int .u64 (f.num : Int), .int .i64 f.size, .string f.small.user, .int .u64 (f.small.seq : Int), .int .i64 f.small.kind, .string f.large.user, .int .u64 (f.large.seq : Int), .int .i64 f.large.kind], .agg #[.int .i64 g.level, .int .u64 (g.num : Int), .int .i64 g.size, .string g.small.user, .int .u64 (g.small.seq : Int), .int .i64 g.small.kind, .string g.large.user, .int .u64 (g.large.seq : Int), .int .i64 g.large.kind]] w fun e w' => e = .returned (.bool (decide (g.num < f.num))) ∧ Below w.heap.size w w' := by
  have HW : Hid (Below w.heap.size w ((w.alloc (.cells (fA f) TFi)).alloc (.cells (fA g) TFi))) := ((Below.refl _ _).alloc (Nat.le_refl _) _).alloc (by simp) _
  go_enter Tryz.func166, Tryz.ntmps166
  go_wp2
  go_ret
  exact ⟨by simp, HW.out⟩
set_option maxRecDepth 100000 in
set_option maxHeartbeats 1000000 in
theorem below_any (f g : PF) (w : World) : Calls Tryz.prog 167 #[.agg #[.int .i64 f.level, .int .u64 (f.num : Int), .int .i64 f.size, .string f.small.user, .int .u64 (f.small.seq : Int), .int .i64 f.small.kind, .string f.large.user, .int .u64 (f.large.seq : Int), .int .i64 f.large.kind], .agg #[.int .i64 g.level, .int .u64 (g.num : Int), .int .i64 g.size, .string g.small.user, .int .u64 (g.small.seq : Int), .int .i64 g.small.kind, .string g.large.user, .int .u64 (g.large.seq : Int), .int .i64 g.large.kind]] w fun e w' => e = .returned (.bool (decide (apartF f g))) ∧ Below w.heap.size w w' := by
  have HW : Hid (Below w.heap.size w ((w.alloc (.cells (fA f) TFi)).alloc (.cells (fA g) TFi))) := ((Below.refl _ _).alloc (Nat.le_refl _) _).alloc (by simp) _
  go_enter Tryz.func167, Tryz.ntmps167
  go_wp2
  go_ret
  exact ⟨by simp [apartF, ul], HW.out⟩
def ordV (n : Nat) : Value := .func (.func (if n = 0 then 166 else 167)) #[] #[]
set_option maxRecDepth 100000 in
theorem orderOf_any (n : Nat) (w : World) : Calls Tryz.prog 113 #[.int .i64 (n : Int)] w fun e w' => e = .returned (ordV n) ∧ w = w' := by
  unfold ordV
  go_enter Tryz.func113, Tryz.ntmps113
  by_cases h : n = 0
  · subst h
    go_wp2
    go_ret
    exact ⟨ret1 rfl, rfl⟩
  · have hb : ((n : Int) == 0) = false := beq_eq_false_iff_ne.2 (by omega)
    rw [if_neg h]
    go_wp2
    go_ret
    exact ⟨ret1 rfl, rfl⟩
end Go.Proofs.YtmlfbihlbiikeaaGreatDoor
namespace Go.Proofs.YtmlfbihlbiikeaaGreatDoor
open Go.RowKit
set_option linter.unusedVariables false
set_option linter.unusedSimpArgs false
theorem ins_go {a j : Nat} {d : Array Nat} (h : a < j) (hl : lN d[j]! d[j - 1]! = true) : Sort.insInner lN a j d = Sort.insInner lN a (j - 1) (Sort.swp d j (j - 1)) := by
  cases j with
  | zero => omega
  | succ k =>
    rw [Nat.add_sub_cancel] at hl ⊢
    rw [Sort.insInner, if_pos (by rw [hl]; simpa using h)]
theorem ins_no {a j : Nat} {d : Array Nat} (h : j ≤ a ∨ lN d[j]! d[j - 1]! = false) : Sort.insInner lN a j d = d := by
  cases j with
  | zero => rw [Sort.insInner]
  | succ k =>
    rw [Nat.add_sub_cancel] at h
    rw [Sort.insInner, if_neg]
    rw [Bool.and_eq_true, decide_eq_true_eq]
    rintro ⟨h1, h2⟩
    rcases h with h | h
    · omega
    · rw [h] at h2
      cases h2
set_option maxRecDepth 100000 in
set_option maxHeartbeats 8000000 in
theorem ins_at (g o c a b n : Nat) (d : Array Nat) (w : World) (hR : Rw w w g o d) (hn : d.size = n) (hab : a ≤ b) (hb : b ≤ n) (hm : n < 4611686018427387904) :
    Calls Tryz.prog 242 #[.slice (some ⟨g, o, none⟩) n c, .int .i64 (a : Int), .int .i64 (b : Int)] w fun e w' => e = .returned (.tuple #[]) ∧ Rw w w' g o (Sort.insertionSort lN d a b) := by
  have HR : Hid (Rw w w g o d ∧ d.size = n) := ⟨hR, hn⟩
  clear hR hn
  go_enter Tryz.func242, Tryz.ntmps242
  go_wp2
  go_loopg [6] (b - a) (fun kx s6 wr => ∃ (i : Nat) (di : Array Nat), s6 = .int .i64 (i : Int) ∧ a < i ∧ i ≤ b + 1 ∧ kx = b + 1 - i ∧ Hid (Rw w wr g o di ∧ di.size = n ∧ Sort.insOuter lN a b i di = Sort.insOuter lN a b (a + 1) d))
  case atStart => exact ⟨a + 1, d, by go_num, by omega, by omega, by omega, HR.out.1, HR.out.2, rfl⟩
  case round =>
    obtain ⟨i, di, rfl, hai, hib, rfl, HI⟩ := hrel
    by_cases hlt : i < b
    · go_wp2
      go_loopg [7] (i + 1) (fun kx s7 wq => ∃ (j : Nat) (dj : Array Nat), s7 = .int .i64 (j : Int) ∧ a ≤ j ∧ j ≤ i ∧ kx = j + 1 ∧ Hid (Rw w wq g o dj ∧ dj.size = n ∧ Sort.insInner lN a j dj = Sort.insInner lN a i di))
      case atStart => exact ⟨i, di, rfl, by omega, Nat.le_refl _, rfl, HI.out.1, HI.out.2.1, rfl⟩
      case round =>
        obtain ⟨j, dj, rfl, haj, hji, rfl, HJ⟩ := hrel
        obtain ⟨G, HG, hcw, hfw⟩ := HJ.out.1.fam HJ.out.2.1
        have OUT : Hid (Sort.insInner lN a j dj = dj → ∀ W, Rw w W g o dj → Rw w W g o dj ∧ dj.size = n ∧ Sort.insOuter lN a b (i + 1) dj = Sort.insOuter lN a b (a + 1) d) := fun he W hW => by
          refine ⟨hW, HJ.out.2.1, ?_⟩
          rw [← HI.out.2.2]
          conv => rhs; rw [Sort.insOuter, if_pos hlt, ← HJ.out.2.2, he]
        by_cases hja : a < j
        · cases hl : lN (G j) (G (j - 1))
          all_goals have HL : Hid (lN (G j) (G (j - 1)) = _) := hl
          all_goals clear hl
          all_goals go_wp2_with fail
          all_goals go_quiet (first | (go_at_call 248; refine Calls.quiet_of_same (less_any _ _ _)))
          all_goals simp only [HL.out]
          · go_wp2
            go_roundg (b - i)
            case measure => omega
            case rel => exact ⟨i + 1, dj, by go_num, by omega, by omega, by omega, OUT.out (ins_no (.inr (by rw [← HG.out, ← HG.out]; exact HL.out))) _ (HJ.out.1.drewN nq)⟩
          · go_wp2
            go_region
            all_goals go_wp2
            go_roundg j
            case measure => omega
            case rel =>
              refine ⟨j - 1, Sort.swp dj j (j - 1), by congr 1; omega, by omega, by omega, by omega, ?_, by rw [Sort.size_swp]; exact HJ.out.2.1, ?_⟩
              · rw [HG.out, HG.out]
                exact HJ.out.1.swap (by rw [HJ.out.2.1]; omega) (by rw [HJ.out.2.1]; omega) _
              · rw [← HJ.out.2.2, ins_go hja (by rw [← HG.out, ← HG.out]; exact HL.out)]
        · go_wp2_with fail
          go_quiet (first | (go_at_call 248; refine Calls.quiet_of_same (less_any _ _ _)))
          go_wp2
          go_roundg (b - i)
          case measure => omega
          case rel => exact ⟨i + 1, dj, by go_num, by omega, by omega, by omega, OUT.out (ins_no (.inl (by omega))) _ (HJ.out.1.drewN nq)⟩
    · go_wp2
      go_end0
      refine ⟨rfl, ?_⟩
      have h3 := HI.out.2.2
      rw [Sort.insOuter, if_neg hlt] at h3
      unfold Sort.insertionSort
      rw [← h3]
      exact HI.out.1
theorem rev_go {i j : Nat} {d : Array Nat} (h : i < j) : Sort.reverseLoop i j d = Sort.reverseLoop (i + 1) (j - 1) (Sort.swp d i j) := by
  rw [Sort.reverseLoop, if_pos h]
theorem rev_no {i j : Nat} {d : Array Nat} (h : ¬ i < j) : Sort.reverseLoop i j d = d := by
  rw [Sort.reverseLoop, if_neg h]
set_option maxRecDepth 100000 in
set_option maxHeartbeats 8000000 in
theorem rev_at (g o c a b n : Nat) (d : Array Nat) (w : World) (hR : Rw w w g o d) (hn : d.size = n) (hab : a < b) (hb : b ≤ n) (hm : n < 4611686018427387904) :
    Calls Tryz.prog 246 #[.slice (some ⟨g, o, none⟩) n c, .int .i64 (a : Int), .int .i64 (b : Int)] w fun e w' => e = .returned (.tuple #[]) ∧ Rw w w' g o (Sort.reverseRange d a b) := by
  have HR : Hid (Rw w w g o d ∧ d.size = n) := ⟨hR, hn⟩
  clear hR hn
  go_enter Tryz.func246, Tryz.ntmps246
  go_wp2
  go_loopg [6, 7] (b - a) (fun kx s6 s7 wr => ∃ (i j : Nat) (di : Array Nat), s6 = .int .i64 (i : Int) ∧ s7 = .int .i64 (j : Int) ∧ a ≤ i ∧ j < b ∧ i ≤ j + 1 ∧ kx = j + 1 - i ∧ Hid (Rw w wr g o di ∧ di.size = n ∧ Sort.reverseLoop i j di = Sort.reverseLoop a (b - 1) d))
  case atStart => exact ⟨a, b - 1, d, rfl, by congr 1; omega, by omega, by omega, by omega, by omega, HR.out.1, HR.out.2, rfl⟩
  case round =>
    obtain ⟨i, j, di, rfl, rfl, hai, hjb, hij, rfl, HI⟩ := hrel
    obtain ⟨G, HG, hcw, hfw⟩ := HI.out.1.fam HI.out.2.1
    by_cases hlt : i < j
    · go_wp2
      go_region
      all_goals go_wp2
      go_roundg (j - 1 + 1 - (i + 1))
      case measure => omega
      case rel =>
        refine ⟨i + 1, j - 1, Sort.swp di i j, by go_num, by congr 1; omega, by omega, by omega, by omega, rfl, ?_, by rw [Sort.size_swp]; exact HI.out.2.1, ?_⟩
        · rw [HG.out, HG.out]
          exact HI.out.1.swap (by rw [HI.out.2.1]; omega) (by rw [HI.out.2.1]; omega) _
        · rw [← HI.out.2.2]
          exact (rev_go hlt).symm
    · go_wp2
      go_end0
      refine ⟨rfl, ?_⟩
      have h3 := HI.out.2.2
      rw [rev_no hlt] at h3
      unfold Sort.reverseRange
      rw [← h3]
      exact HI.out.1
end Go.Proofs.YtmlfbihlbiikeaaGreatDoor
