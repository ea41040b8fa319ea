/- A row of numbers that is being sorted, in memory: what a swap makes of it; cmp.Less at uint64. -/
import Derived.Test.YtcdfgcjecmpjhaaChecked
import Derived.Test.YtcdfgcjecmpjhaaBoxM
import Derived.Sort.AssemblyPlain
import Derived.Sort.Row
import Derived.WalkKit
import Derived.BigQuiet
import Derived.CellFam
import Derived.BigCall
import Derived.Deep.LoopGhost
import Derived.Deep.QuietTactic
namespace Go.Proofs.Ytcdfgcjecmpjhaa
open Go.RowKit
set_option linter.unusedVariables false
set_option linter.unusedSimpArgs false
abbrev TU : TypeId := 33
abbrev lN (x y : Nat) : Bool := decide (x < y)
theorem swoN : Sort.SWO lN := ⟨fun x => by simp, fun x y z h k => by simp at h k ⊢; omega, fun x y z h k => by simp at h k ⊢; omega⟩
/-- Of a world, another one came, in which this row stands at that place, and nothing else turned. -/
structure Rw (w0 w : World) (g o : Nat) (d : Array Nat) : Prop where
  cell : ∀ t, t < d.size → w.cell? ⟨g, o + t, none⟩ = some (.int .u64 ((d[t]! : Nat) : Int))
  soft : ∀ t, w.frozen? ⟨g, t, none⟩ = false
  chg : Chg (fun k => k = g) w0 w
  shape : ∀ t arr, Box w0 g t arr → ∃ arr', Box w g t arr' ∧ arr'.size = arr.size
theorem Rw.drewN {w0 w : World} {g o : Nat} {d : Array Nat} (h : Rw w0 w g o d) (q : Nat) : Rw w0 (w.drewN q) g o d :=
  ⟨h.cell, h.soft, ⟨h.chg.os, h.chg.tape, h.chg.output, h.chg.size, h.chg.block⟩, h.shape⟩
theorem Rw.alloc {w0 w : World} {g o : Nat} {d : Array Nat} (h : Rw w0 w g o d) (hg : g < w.heap.size) (ob : Obj) : Rw w0 (w.alloc ob) g o d := by
  have hb : (w.alloc ob).heap[g]? = w.heap[g]? := Below.heap_alloc w ob g hg
  refine ⟨fun t ht => ?_, fun t => ?_, h.chg.alloc ob, fun t arr ha => ?_⟩
  · have := h.cell t ht
    unfold World.cell? at this ⊢
    rw [hb]
    exact this
  · have := h.soft t
    unfold World.frozen? at this ⊢
    rw [hb]
    exact this
  · obtain ⟨arr', h1, h2⟩ := h.shape t arr ha
    exact ⟨arr', h1.kept hb, h2⟩
theorem Rw.andThen {w0 w1 w2 : World} {g o : Nat} {d d' : Array Nat} (h : Rw w0 w1 g o d) (k : Rw w1 w2 g o d') : Rw w0 w2 g o d' :=
  ⟨k.cell, k.soft, h.chg.andThen k.chg fun _ _ e => e, fun t arr ha => by
    obtain ⟨a1, h1, h2⟩ := h.shape t arr ha
    obtain ⟨a2, h3, h4⟩ := k.shape t a1 h1
    exact ⟨a2, h3, h4.trans h2⟩⟩
theorem Rw.here {w0 w : World} {g o : Nat} {d : Array Nat} (h : Rw w0 w g o d) : Rw w w g o d := ⟨h.cell, h.soft, Chg.refl _ _, fun t arr ha => ⟨arr, ha, rfl⟩⟩
/-- Another block turned, or a new one. -/
theorem Rw.kept {w0 w w' : World} {g o : Nat} {d : Array Nat} (h : Rw w0 w g o d) (hb : w'.heap[g]? = w.heap[g]?) (hc : Chg (fun k => k = g) w0 w') : Rw w0 w' g o d := by
  refine ⟨fun t ht => ?_, fun t => ?_, hc, fun t arr ha => ?_⟩
  · have := h.cell t ht
    unfold World.cell? at this ⊢
    rw [hb]
    exact this
  · have := h.soft t
    unfold World.frozen? at this ⊢
    rw [hb]
    exact this
  · obtain ⟨arr', h1, h2⟩ := h.shape t arr ha
    exact ⟨arr', h1.kept hb, h2⟩
theorem cell_set_same {w : World} {g i : Nat} {u v : Value} (h : w.cell? ⟨g, i, none⟩ = some u) : (w.setCell ⟨g, i, none⟩ v).cell? ⟨g, i, none⟩ = some v := by
  obtain ⟨c, e, fr, hb, hc⟩ := Sort.cells_of_cell? h
  have hi : i < c.size := (Array.getElem?_eq_some_iff.1 hc).1
  have hk : g < w.heap.size := (Array.getElem?_eq_some_iff.1 hb).1
  rw [Sort.setCell_eq, Sort.cell?_mapBlock w g i _ hb]
  simp [hi]
theorem cell_set_other {w : World} {g i j : Nat} {v u : Value} (h : w.cell? ⟨g, j, none⟩ = some u) (hne : j ≠ i) : (w.setCell ⟨g, i, none⟩ v).cell? ⟨g, j, none⟩ = some u := by
  obtain ⟨c, e, fr, hb, hc⟩ := Sort.cells_of_cell? h
  rw [Sort.setCell_eq, Sort.cell?_mapBlock w g j _ hb, Array.getElem?_setIfInBounds_ne (fun e => hne e.symm)]
  exact hc
theorem soft_set {w : World} {a : Addr} {g i : Nat} {v : Value} : (w.setCell ⟨g, i, none⟩ v).frozen? a = w.frozen? a := by
  rw [Sort.setCell_eq, Sort.frozen?_mapBlock]
theorem Rw.swap {w0 w : World} {g o : Nat} {d : Array Nat} (h : Rw w0 w g o d) {i j : Nat} (hi : i < d.size) (hj : j < d.size) (q : Nat) :
    Rw w0 (((w.drewN q).setCell ⟨g, o + i, none⟩ (.int .u64 ((d[j]! : Nat) : Int))).setCell ⟨g, o + j, none⟩ (.int .u64 ((d[i]! : Nat) : Int))) g o (Sort.swp d i j) := by
  have h0 := h.drewN q
  generalize w.drewN q = W at h0
  refine ⟨fun t ht => ?_, fun t => ?_, (h0.chg.set (fun _ => rfl) _ _).set (fun _ => rfl) _ _, fun t arr ha => ?_⟩
  · rw [Sort.size_swp] at ht
    by_cases e2 : t = j
    · subst e2
      rw [Sort.swp_right d i t ht]
      by_cases e1 : t = i
      · subst e1
        exact cell_set_same (cell_set_same (h0.cell t ht))
      · exact cell_set_same (cell_set_other (h0.cell t ht) (by omega))
    · by_cases e1 : t = i
      · subst e1
        rw [Sort.swp_left d t j ht e2]
        exact cell_set_other (cell_set_same (h0.cell t ht)) (by omega)
      · rw [Sort.swp_other d i j t e1 e2]
        exact cell_set_other (cell_set_other (h0.cell t ht) (by omega)) (by omega)
  · rw [soft_set, soft_set]
    exact h0.soft t
  · obtain ⟨arr', h1, h2⟩ := h0.shape t arr ha
    exact ⟨_, (h1.set _ _).set _ _, by simp [h2]⟩
/-- The row's contents under a name of their own. -/
theorem Rw.fam {w0 w : World} {g o n : Nat} {d : Array Nat} (h : Rw w0 w g o d) (hn : d.size = n) : ∃ G : Nat → Nat, Hid (∀ t, G t = d[t]!) ∧ (∀ t, t < n → w.cell? ⟨g, o + t, none⟩ = some (.int .u64 ((G t : Nat) : Int))) ∧ (∀ t, t < n → w.frozen? ⟨g, o + t, none⟩ = false) :=
  ⟨fun t => d[t]!, fun _ => rfl, fun t ht => h.cell t (by omega), fun t _ => h.soft _⟩
set_option maxHeartbeats 1000000 in
theorem nan_any (x : Int) (w : World) : Calls Try.prog 78 #[.int .u64 x] w fun e w' => e = .returned (.bool false) ∧ w' = w := by
  go_enter Try.func78, Try.ntmps78
  go_wp2
  go_ret
  exact ⟨by simp, rfl⟩
set_option maxHeartbeats 1000000 in
theorem less_any (x y : Nat) (w : World) : Calls Try.prog 64 #[.int .u64 (x : Int), .int .u64 (y : Int)] w fun e w' => e = .returned (.bool (lN x y)) ∧ w' = w := by
  go_enter Try.func64, Try.ntmps64
  go_wp2_with (go_at_call 78; refine (nan_any _ _).mono ?_; rintro e w' ⟨rfl, rfl⟩)
  go_ret
  exact ⟨by simp, rfl⟩
end Go.Proofs.Ytcdfgcjecmpjhaa
