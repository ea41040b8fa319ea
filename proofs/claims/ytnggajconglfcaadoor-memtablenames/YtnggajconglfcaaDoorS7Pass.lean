/- The contracts of an operation's pass. -/
import Derived.Test.YtnggajconglfcaaDoorS7Ops
import Derived.Deep.RegionWith
import Derived.BigQuiet
namespace Go.Proofs.YtnggajconglfcaaDoor
open Go.RowKit
set_option linter.unusedVariables false
theorem OC.set_seen (c : OC) (x : Value) : c.arr.setIfInBounds 4 x = OC.arr { c with seen := x } := by simp [OC.arr]
theorem OC.set_pos (c : OC) (a : Addr) : c.arr.setIfInBounds 3 (.pointer (some a)) = OC.arr { c with pos := a } := by simp [OC.arr]
theorem OC.set_next (c : OC) (x : Value) : c.arr.setIfInBounds 13 x = OC.arr { c with next := x } := by simp [OC.arr]
theorem OC.set_lv (c : OC) (x : Nat) : c.arr.setIfInBounds 2 (.int .i64 (x : Int)) = OC.arr { c with lv := x } := by simp [OC.arr]
abbrev Is (q k : Nat) : Prop := k = q
theorem Chg.drewN {R : Nat → Prop} {w w' : World} (h : Chg R w w') (n : Nat) : Chg R w (w'.drewN n) := ⟨h.os, h.tape, h.output, h.size, h.block⟩
theorem Chg.put {w w' : World} {q : Nat} (h : Chg (Is q) w w') (j : Nat) (v : Value) : Chg (Is q) w (w'.setCell ⟨q, j, none⟩ v) := h.set (fun _ => rfl) j v
section
variable {w : World} {q pb po b o hh lv : Nat} {seen next : Value} {ah : Nat → Value} {k k' : ByteArray}
set_option maxRecDepth 100000 in
set_option maxHeartbeats 1000000 in
theorem pass_lt (h : Box w q TO (OC.arr ⟨at_ o, hh, lv, ⟨pb, po, none⟩, seen, ah, next⟩)) (hl : lv < 8)
    (hs : w.cell? ⟨pb, po + 1 + lv, none⟩ = some (at_ b)) (hk : w.cell? ⟨b, 0, none⟩ = some (.string k)) (hk' : w.cell? ⟨o, 0, none⟩ = some (.string k')) (hqb : b ≠ q) (hqo : o ≠ q) (hlt : kl k k' = true) :
    Calls Tryd.prog 81 #[at_ q] w fun e w' => e = .returned (.bool true) ∧ Box w' q TO (OC.arr ⟨at_ o, hh, lv, ⟨b, 0, none⟩, at_ b, ah, next⟩) ∧ Chg (Is q) w w' := by
  have HB : Hid (Box w q TO (OC.arr ⟨at_ o, hh, lv, ⟨pb, po, none⟩, seen, ah, next⟩)) := h
  have c0 := h.cell 0
  have c2 := h.cell 2
  have c3 := h.cell 3
  have c4 := h.cell 4
  have f3 := h.soft 3
  have f4 := h.soft 4
  simp [OC.arr] at c0 c2 c3 c4
  clear h
  have hge : ∀ w, (binOp .geq 9 (.string k) (.string k')).run Tryd.prog w = .ok (.bool false) w := fun w => by rw [str_geq]; unfold kl at hlt; rw [hlt]; rfl
  clear hlt
  go_enter Tryd.func81, Tryd.ntmps81
  go_wp2
  go_region
  go_wp2
  go_quiet (fail)
  go_wp2
  go_ret
  refine ⟨rfl, ?_, ?_⟩
  · exact ((HB.out.set 4 (at_ b)).set 3 (at_ b)).eq (by rw [OC.set_seen, OC.set_pos])
  · exact (((Chg.refl _ _).put 4 _).drewN _).put 3 _
set_option maxRecDepth 100000 in
set_option maxHeartbeats 1000000 in
theorem pass_ge (h : Box w q TO (OC.arr ⟨at_ o, hh, lv, ⟨pb, po, none⟩, seen, ah, next⟩)) (hl : lv < 8)
    (hs : w.cell? ⟨pb, po + 1 + lv, none⟩ = some (at_ b)) (hk : w.cell? ⟨b, 0, none⟩ = some (.string k)) (hk' : w.cell? ⟨o, 0, none⟩ = some (.string k')) (hqb : b ≠ q) (hqo : o ≠ q) (hlt : kl k k' = false) :
    Calls Tryd.prog 81 #[at_ q] w fun e w' => e = .returned (.bool false) ∧ Box w' q TO (OC.arr ⟨at_ o, hh, lv, ⟨pb, po, none⟩, at_ b, ah, next⟩) ∧ Chg (Is q) w w' := by
  have HB : Hid (Box w q TO (OC.arr ⟨at_ o, hh, lv, ⟨pb, po, none⟩, seen, ah, next⟩)) := h
  have c0 := h.cell 0
  have c2 := h.cell 2
  have c3 := h.cell 3
  have c4 := h.cell 4
  have f3 := h.soft 3
  have f4 := h.soft 4
  simp [OC.arr] at c0 c2 c3 c4
  clear h
  have hge : ∀ w, (binOp .geq 9 (.string k) (.string k')).run Tryd.prog w = .ok (.bool true) w := fun w => by rw [str_geq]; unfold kl at hlt; rw [hlt]; rfl
  clear hlt
  go_enter Tryd.func81, Tryd.ntmps81
  go_wp2
  go_region
  go_wp2
  go_quiet (fail)
  go_wp2
  go_ret
  refine ⟨rfl, ?_, ?_⟩
  · exact (HB.out.set 4 _).eq (OC.set_seen _ _)
  · exact (((Chg.refl _ _).put 4 _).drew.drewN _)
set_option maxRecDepth 100000 in
set_option maxHeartbeats 1000000 in
theorem pass_nil (h : Box w q TO (OC.arr ⟨at_ o, hh, lv, ⟨pb, po, none⟩, seen, ah, next⟩)) (hl : lv < 8)
    (hs : w.cell? ⟨pb, po + 1 + lv, none⟩ = some (.pointer none)) :
    Calls Tryd.prog 81 #[at_ q] w fun e w' => e = .returned (.bool false) ∧ Box w' q TO (OC.arr ⟨at_ o, hh, lv, ⟨pb, po, none⟩, .pointer none, ah, next⟩) ∧ Chg (Is q) w w' := by
  have HB : Hid (Box w q TO (OC.arr ⟨at_ o, hh, lv, ⟨pb, po, none⟩, seen, ah, next⟩)) := h
  have c0 := h.cell 0
  have c2 := h.cell 2
  have c3 := h.cell 3
  have c4 := h.cell 4
  have f3 := h.soft 3
  have f4 := h.soft 4
  simp [OC.arr] at c0 c2 c3 c4
  clear h
  go_enter Tryd.func81, Tryd.ntmps81
  go_wp2
  go_region
  go_wp2
  go_quiet (fail)
  go_wp2
  go_ret
  refine ⟨rfl, ?_, ?_⟩
  · exact (HB.out.set 4 _).eq (OC.set_seen _ _)
  · exact (((Chg.refl _ _).put 4 _).drew.drewN _)
end
end Go.Proofs.YtnggajconglfcaaDoor
