/- The contract of New. -/
import Derived.Test.YtnggajconglfcaaDoorS7Mem
import Derived.Carry
namespace Go.Proofs.YtnggajconglfcaaDoor
open Go.RowKit
set_option linter.unusedVariables false
def PS.new (room : Nat) : PS := ⟨room, [], fun _ => []⟩
theorem PS.new_inv {room : Nat} (h : room ≤ 1000) : (PS.new room).Inv where
  room := h
  size := Nat.zero_le _
  uniq := fun i j hi => absurd hi (Nat.not_lt_zero _)
  long := fun i hi => absurd hi (Nat.not_lt_zero _)
  sorted := fun l hl => List.Pairwise.nil
  mem := fun l hl i => by simp [PS.new]
  ok := fun i hi => absurd hi (Nat.not_lt_zero _)
theorem SkAt.made (w : World) {room : Nat} (h : room ≤ 1000) : SkAt ((w.alloc (.map #[] 0)).alloc (.cells (listArr room (fun _ => .pointer none) w.heap.size none 0 0) TL)) (w.heap.size + 1) (PS.new room) ⟨[], [], w.heap.size, none, 0⟩ where
  inv := PS.new_inv h
  head := by
    have := Box.new (w.alloc (.map #[] 0)) TL (listArr room (fun _ => .pointer none) w.heap.size none 0 0)
    simp at this
    exact this
  nlen := rfl
  olen := rfl
  ond := List.Pairwise.nil
  node := fun i hi => absurd hi (Nat.not_lt_zero _)
  op := fun i hi => absurd hi (Nat.not_lt_zero _)
  row := World.ownsRow_nil _ _ _ _
  map := ⟨.map [], (World.ownsMap_made w Tryd.prog 9 unitElem).alloc _, fun s => by simp [Maps.has, PS.keys, PS.new]⟩
set_option maxRecDepth 100000 in
theorem new_bad (n : Int) (w : World) (h : n < 0 ∨ 1000 < n) : Calls Tryd.prog 45 #[.int .i64 n] w fun e w' => e = .returned (.tuple #[.pointer none, .int .i64 1]) ∧ w' = w := by
  rcases h with h | h
  · go_enter Tryd.func45, Tryd.ntmps45
    go_wp2
    go_returns
    exact ⟨rfl, rfl⟩
  · have h0 : ¬ n < 0 := by omega
    go_enter Tryd.func45, Tryd.ntmps45
    go_wp2
    go_returns
    exact ⟨rfl, rfl⟩
set_option maxRecDepth 100000 in
theorem new_at (room : Nat) (w : World) (h : room ≤ 1000) : Calls Tryd.prog 45 #[.int .i64 (room : Int)] w fun e w' => ∃ p g, e = .returned (.tuple #[at_ p, .int .i64 0]) ∧ SkAt w' p (PS.new room) g ∧ Below w.heap.size w w' ∧ (∀ k, Foot p g k → w.heap.size ≤ k) := by
  have hmm : ∀ w : World, (Instr.makeMap 91 none).run Tryd.prog w = .ok (.map (some w.heap.size)) (w.alloc (.map #[] 0)) := fun w => by kernel_rfl
  go_enter Tryd.func45, Tryd.ntmps45
  go_wp2
  go_returns
  refine ⟨w.heap.size + 1, _, ?_, SkAt.made w h, ?_, ?_⟩
  · rfl
  · exact ((Below.refl _ _).alloc (Nat.le_refl _) _).alloc (by simp) _
  · intro k hk
    rcases hk with rfl | hk | hk | rfl | hk
    · omega
    · cases hk
    · cases hk
    · exact Nat.le_refl _
    · cases hk
end Go.Proofs.YtnggajconglfcaaDoor
