/- A task that is not on the board yet; copy of cells onto a new board. -/
import Derived.Test.YtehkcgjiimfdjabRun5
import Derived.Laws.CopyRow
import Derived.Laws.IdiomCopy
namespace Go.Proofs.Ytehkcgjiimfdjab
open Go.RowKit
set_option maxRecDepth 100000 in
set_option maxHeartbeats 1000000 in
theorem goTo_lone {w : World} (i : Nat) (tg : Tg) (c : List Ins) (h : Box w tg.q 53 (taskL i tg ⟨c, 0, [0, 0, 0, 0], 0⟩).toArray) : Calls Try.prog 12 #[at_ tg.q, .int .i64 0] w fun e w' => e = .returned (.tuple #[]) ∧ Box w' tg.q 53 (taskL i tg (fresh c)).toArray ∧ Chg (fun k => k = tg.q) w w' := by
  have c1 := h.cell 1
  have c2 := h.cell 2
  have c7 := h.cell 7
  have s2 := h.soft 2
  have s7 := h.soft 7
  simp [taskL] at c1 c2 c7
  by_cases hl : c.length = 0
  · have e : fresh c = ⟨c, 0, [0, 0, 0, 0], 3⟩ := by simp [fresh, PTask.goTo, hl]
    have H1 : Hid (Box ((w.setCell ⟨tg.q, 2, none⟩ (.int .i64 0)).setCell ⟨tg.q, 7, none⟩ (.int .i64 3)) tg.q 53 (taskL i tg ⟨c, 0, [0, 0, 0, 0], 3⟩).toArray) := Box.eq ((h.set 2 _).set 7 _) (by simp [taskL])
    rw [hl] at c1
    rw [e]
    clear e
    go_enter Try.func12, Try.ntmps12
    go_wp2
    go_returns
    exact ⟨rfl, H1.out, ((Chg.refl (fun k => k = tg.q) w).set (p := tg.q) (fun _ => rfl) 2 _).set (p := tg.q) (fun _ => rfl) 7 _⟩
  · have e : fresh c = ⟨c, 0, [0, 0, 0, 0], 0⟩ := by simp [fresh, PTask.goTo, Ne.symm hl]
    have H1 : Hid (Box (w.setCell ⟨tg.q, 2, none⟩ (.int .i64 0)) tg.q 53 (taskL i tg ⟨c, 0, [0, 0, 0, 0], 0⟩).toArray) := Box.eq (h.set 2 _) (by simp [taskL])
    have hl' : ((0 : Int) == (c.length : Int)) = false := by simp; omega
    rw [e]
    clear e
    go_enter Try.func12, Try.ntmps12
    go_wp2
    go_returns
    exact ⟨rfl, H1.out, (Chg.refl (fun k => k = tg.q) w).set (p := tg.q) (fun _ => rfl) 2 _⟩
theorem infoInt1 : (Try.prog.info? 3).map (·.size) = some 1 := by kernel_rfl
abbrev zeroBoard : Array Value := #[.int .i64 0, .int .i64 0, .int .i64 0, .int .i64 0, .int .i64 0, .int .i64 0, .int .i64 0, .int .i64 0, .int .i64 0, .int .i64 0, .int .i64 0, .int .i64 0, .int .i64 0, .int .i64 0, .int .i64 0, .int .i64 0, .pointer none, .pointer none, .pointer none, .pointer none, .pointer none, .pointer none, .pointer none, .pointer none, .pointer none, .pointer none, .pointer none, .pointer none, .pointer none, .pointer none, .pointer none, .pointer none, .slice none 0 0, .slice none 0 0, .int .i64 0]
def g00 : Bg := ⟨[], none, 0, none, 0⟩
/-- Cells are copied onto a new board. -/
theorem copy_board (w : World) (ca : Option Addr) (cl cc : Nat) (cs : List Int) (h : IsAt w ca cl cc cs) (hcl : cl ≤ 16) : ∃ W2, (Builtin.copy_ #[22, 22] 3 #[.slice (some ⟨w.heap.size, 0, none⟩) 16 16, .slice ca cl cc]).run Try.prog (w.alloc (.cells zeroBoard 49)) = .ok (.int .i64 (cl : Int)) W2 ∧ BdAt w W2 w.heap.size g00 (begins [] cs) := by
  have hs := h.size
  have mk : ∀ W2, Box W2 w.heap.size 49 (boardL (begins [] cs) g00).toArray → Below w.heap.size w W2 → BdAt w W2 w.heap.size g00 (begins [] cs) := fun W2 hb hB =>
    ⟨hb, rfl, fun i hi => absurd hi (Nat.not_lt_zero _), World.ownsRow_nil _ _ _ 1, World.ownsRow_nil _ _ _ 2, fun i _ hi => absurd hi (Nat.not_lt_zero _), Nat.le_refl _, fun i hi => absurd hi (Nat.not_lt_zero _), hB⟩
  have hA : Below w.heap.size w (w.alloc (.cells zeroBoard 49)) := (Below.refl _ _).alloc (Nat.le_refl _) _
  by_cases h0 : cl = 0
  · refine ⟨_, ?_, mk _ ?_ hA⟩
    · have := run_copy_none (P := Try.prog) (w.alloc (.cells zeroBoard 49)) 22 22 3 3 (some ⟨w.heap.size, 0, none⟩) ca 16 16 cl cc Try.underlying22 infoInt1 (by rw [h0]; rfl)
      rw [this, h0]
      rfl
    · obtain rfl := List.eq_nil_of_length_eq_zero (hs.trans h0)
      exact Box.new w _ zeroBoard
  · obtain ⟨b, off, rfl, hc⟩ := h.here (by omega)
    have hbx := Box.new w 49 zeroBoard
    have hsrc : ∀ j v, (cs.map (Value.int .i64))[j]? = some v → (w.alloc (.cells zeroBoard 49)).cell? ((⟨b, off, none⟩ : Addr).add j) = some v := by
      intro j v hv
      have hj : j < cs.length := by
        have := (List.getElem?_eq_some_iff.1 hv).1
        simpa using this
      rw [Addr.add_lit]
      have hcj := hc j (by omega)
      rw [hA.cell (World.block_lt_of_cell? w _ hcj), hcj]
      rw [List.getElem?_map, List.getElem?_eq_getElem hj] at hv
      simp [List.getD, hj]
      simpa using hv
    have := run_copy_row (P := Try.prog) (w.alloc (.cells zeroBoard 49)) 22 22 3 3 w.heap.size 0 16 16 ⟨b, off, none⟩ cl cc zeroBoard 49 (cs.map (Value.int .i64)) Try.underlying22 infoInt1 hbx (by rw [List.length_map, hs]; exact (Nat.min_eq_left hcl).symm) hsrc (by rw [List.length_map, hs]; show 0 + cl ≤ 35; omega) (by intro v hv; obtain ⟨_, _, rfl⟩ := List.mem_map.1 hv; rfl)
    have eg : goInt (cs.map (Value.int .i64)).length = Value.int .i64 (cl : Int) := by rw [List.length_map, hs]; rfl
    rw [eg] at this
    refine ⟨_, this, mk _ ?_ ?_⟩
    · have h9 := setRow_heap (w.alloc (.cells zeroBoard 49)) w.heap.size zeroBoard (zeroBoard.toList.take 0 ++ cs.map (Value.int .i64) ++ zeroBoard.toList.drop (0 + (cs.map (Value.int .i64)).length)).toArray 49 _ hbx
      refine Box.eq h9 ?_
      congr 1
      have e : zeroBoard.toList = List.replicate 16 (.int .i64 0) ++ (List.replicate 16 (.pointer none) ++ [.slice none 0 0, .slice none 0 0, .int .i64 0]) := rfl
      rw [e, List.take_zero, List.nil_append, Nat.zero_add, List.length_map, List.drop_append_of_le_length (by rw [List.length_replicate, hs]; exact hcl), List.drop_replicate]
      unfold boardL begins
      simp [ownV, g00]
    · exact ⟨rfl, rfl, rfl, by simp, fun k hk => by rw [setRow_other _ _ _ _ (by omega)]; exact hA.block k hk⟩
end Go.Proofs.Ytehkcgjiimfdjab
