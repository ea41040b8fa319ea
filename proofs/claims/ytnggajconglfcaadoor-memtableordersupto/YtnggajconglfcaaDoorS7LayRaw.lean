/- The walk of lay. -/
import Derived.Test.YtnggajconglfcaaDoorPdPass
import Derived.Deep.RegionWith
import Derived.Deep.RegionHeld3
namespace Go.Proofs.YtnggajconglfcaaDoor
open Go.RowKit
set_option linter.unusedVariables false
theorem Chg.heap {R : Nat → Prop} {w w1 w' : World} (h : Chg R w1 w') (hh : w1.heap = w.heap) (ho : w1.os = w.os) (ht : w1.tape = w.tape) (hp : w1.output = w.output) : Chg R w w' :=
  ⟨h.os.trans ho, h.tape.trans ht, h.output.trans hp, by rw [← hh]; exact h.size, fun k hk hn => (h.block k (by rw [hh]; exact hk) hn).trans (by rw [hh])⟩
theorem swap_yes {w : World} {pb po lv : Nat} {u0 u1 : Option Addr} {ob oo : Nat} (hl : lv < 8) (hc : w.cell? ⟨pb, po + 1 + lv, none⟩ = some (.pointer u0)) (hf : w.frozen? ⟨pb, po + 1 + lv, none⟩ = false) (hne : (binOp .neq 87 (.pointer u0) (.pointer u1)).run Tryd.prog w = .ok (.bool false) w) :
    Calls Tryd.prog 90 #[.pointer (some ⟨pb, po, none⟩), .int .i64 (lv : Int), .pointer u1, .pointer (some ⟨ob, oo, none⟩)] w fun e w' => e = .returned (.bool true) ∧ w' = w.setCell ⟨pb, po + 1 + lv, none⟩ (.pointer (some ⟨ob, oo, none⟩)) := (swap_any (r := true) hl hc hf hne).mono fun _ _ h => h
theorem swap_no {w : World} {pb po lv : Nat} {u0 u1 : Option Addr} {ob oo : Nat} (hl : lv < 8) (hc : w.cell? ⟨pb, po + 1 + lv, none⟩ = some (.pointer u0)) (hf : w.frozen? ⟨pb, po + 1 + lv, none⟩ = false) (hne : (binOp .neq 87 (.pointer u0) (.pointer u1)).run Tryd.prog w = .ok (.bool true) w) :
    Calls Tryd.prog 90 #[.pointer (some ⟨pb, po, none⟩), .int .i64 (lv : Int), .pointer u1, .pointer (some ⟨ob, oo, none⟩)] w fun e w' => e = .returned (.bool false) ∧ w' = w := (swap_any (r := false) hl hc hf hne).mono fun _ _ h => h
section
variable {w : World} {q pb po o hh lv : Nat} {u0 u1 : Option Addr} {next v : Value} {ah : Nat → Value}
set_option maxRecDepth 100000 in
set_option maxHeartbeats 1000000 in
theorem lay_no (hb : Box w q TO (OC.arr ⟨at_ o, hh, lv, ⟨pb, po, none⟩, .pointer u1, ah, next⟩)) (hl : lv < 8) (hoc : w.cell? ⟨o, 1 + lv, none⟩ = some v) (hof : w.frozen? ⟨o, 1 + lv, none⟩ = false) (hne : o ≠ q) (hpo : pb ≠ o)
    (hlk : (w.setCell ⟨o, 1 + lv, none⟩ (.pointer u1)).cell? ⟨pb, po + 1 + lv, none⟩ = some (.pointer u0)) (hlf : (w.setCell ⟨o, 1 + lv, none⟩ (.pointer u1)).frozen? ⟨pb, po + 1 + lv, none⟩ = false)
    (hcmp : ∀ w2 : World, w2.heap = (w.setCell ⟨o, 1 + lv, none⟩ (.pointer u1)).heap → (binOp .neq 87 (.pointer u0) (.pointer u1)).run Tryd.prog w2 = .ok (.bool true) w2) :
    Calls Tryd.prog 82 #[at_ q] w fun e w' => e = .returned (.tuple #[]) ∧ Box w' q TO (OC.arr ⟨at_ o, hh, lv, ⟨pb, po, none⟩, .pointer u1, ah, nextV q 2⟩) ∧ Chg (Is q) (w.setCell ⟨o, 1 + lv, none⟩ (.pointer u1)) w' := by
  have HB : Hid (Box w q TO (OC.arr ⟨at_ o, hh, lv, ⟨pb, po, none⟩, .pointer u1, ah, next⟩)) := hb
  have c0 := hb.cell 0
  have c2 := hb.cell 2
  have c3 := hb.cell 3
  have c4 := hb.cell 4
  have f13 := hb.soft 13
  have c13 := hb.cell 13
  simp [OC.arr] at c0 c2 c3 c4 c13
  clear hb
  have hmf := mk_func'
  have hne' : ¬ q = o := fun e => hne e.symm
  have hpo' : ¬ o = pb := fun e => hpo e.symm
  have HCMP : Hid (∀ w2 : World, w2.heap = (w.setCell ⟨o, 1 + lv, none⟩ (.pointer u1)).heap → (binOp .neq 87 (.pointer u0) (.pointer u1)).run Tryd.prog w2 = .ok (.bool true) w2) := hcmp
  clear hcmp
  have cell_of : ∀ (w2 w3 : World) (a : Addr), w2.heap = w3.heap → w2.cell? a = w3.cell? a := fun w2 w3 a e => by unfold World.cell?; rw [e]
  have froz_of : ∀ (w2 w3 : World) (a : Addr), w2.heap = w3.heap → w2.frozen? a = w3.frozen? a := fun w2 w3 a e => by unfold World.frozen?; rw [e]
  have HL : Hid (∀ w2 : World, w2.heap = (w.setCell ⟨o, 1 + lv, none⟩ (.pointer u1)).heap → w2.cell? ⟨pb, po + 1 + lv, none⟩ = some (.pointer u0)) := fun w2 e => by rw [cell_of _ _ _ e]; exact hlk
  have HF : Hid (∀ w2 : World, w2.heap = (w.setCell ⟨o, 1 + lv, none⟩ (.pointer u1)).heap → w2.frozen? ⟨pb, po + 1 + lv, none⟩ = false) := fun w2 e => by rw [froz_of _ _ _ e]; exact hlf
  clear cell_of froz_of hlk hlf
  go_enter Tryd.func82, Tryd.ntmps82
  go_wp2
  go_region
  go_wp2
  go_region_held3 (fun w' => w'.cell? ⟨q, 0, none⟩ = some (at_ o) ∧ w'.cell? ⟨q, 2, none⟩ = some (.int .i64 (lv : Int)) ∧ w'.cell? ⟨q, 3, none⟩ = some (.pointer (some ⟨pb, po, none⟩)) ∧ w'.cell? ⟨q, 4, none⟩ = some (.pointer u1)) (first | exact ⟨c0, c2, c3, c4⟩ | go_keep)
    (first | (go_at_call 90; refine (swap_no hl (HL.out _ (by rfl)) (HF.out _ (by rfl)) (HCMP.out _ (by rfl))).mono ?_; rintro _ _ ⟨rfl, rfl⟩))
  go_wp2
  go_returns
  refine ⟨rfl, ?_, ?_⟩
  · exact ((HB.out.other (fun e => hne e.symm) (1 + lv) (.pointer u1)).set 13 (nextV q 2)).eq (OC.set_next _ _)
  · exact (((Chg.refl _ _).put 13 _).drew).drew
set_option maxRecDepth 100000 in
set_option maxHeartbeats 1000000 in
theorem lay_yes (hb : Box w q TO (OC.arr ⟨at_ o, hh, lv, ⟨pb, po, none⟩, .pointer u1, ah, next⟩)) (hl : lv < 8) (hoc : w.cell? ⟨o, 1 + lv, none⟩ = some v) (hof : w.frozen? ⟨o, 1 + lv, none⟩ = false) (hne : o ≠ q) (hpo : pb ≠ o) (hpq : pb ≠ q) {arr' : Array Value}
    (hlk : (w.setCell ⟨o, 1 + lv, none⟩ (.pointer u1)).cell? ⟨pb, po + 1 + lv, none⟩ = some (.pointer u0)) (hlf : (w.setCell ⟨o, 1 + lv, none⟩ (.pointer u1)).frozen? ⟨pb, po + 1 + lv, none⟩ = false)
    (hcl : ∀ w2 : World, w2.heap = ((w.setCell ⟨o, 1 + lv, none⟩ (.pointer u1)).setCell ⟨pb, po + 1 + lv, none⟩ (at_ o)).heap → Calls Tryd.prog 92 #[at_ q] w2 fun e w' => e = .returned (.tuple #[]) ∧ Box w' q TO arr' ∧ Chg (Is q) w2 w')
    (hcmp : ∀ w2 : World, w2.heap = (w.setCell ⟨o, 1 + lv, none⟩ (.pointer u1)).heap → (binOp .neq 87 (.pointer u0) (.pointer u1)).run Tryd.prog w2 = .ok (.bool false) w2) :
    Calls Tryd.prog 82 #[at_ q] w fun e w' => e = .returned (.tuple #[]) ∧ Box w' q TO arr' ∧ Chg (Is q) ((w.setCell ⟨o, 1 + lv, none⟩ (.pointer u1)).setCell ⟨pb, po + 1 + lv, none⟩ (at_ o)) w' := by
  have HB : Hid (Box w q TO (OC.arr ⟨at_ o, hh, lv, ⟨pb, po, none⟩, .pointer u1, ah, next⟩)) := hb
  have c0 := hb.cell 0
  have c2 := hb.cell 2
  have c3 := hb.cell 3
  have c4 := hb.cell 4
  have f13 := hb.soft 13
  have c13 := hb.cell 13
  simp [OC.arr] at c0 c2 c3 c4 c13
  clear hb
  have hpq' : ¬ q = pb := fun e => hpq e.symm
  have HCL : Hid (∀ w2 : World, w2.heap = ((w.setCell ⟨o, 1 + lv, none⟩ (.pointer u1)).setCell ⟨pb, po + 1 + lv, none⟩ (at_ o)).heap → Calls Tryd.prog 92 #[at_ q] w2 fun e w' => e = .returned (.tuple #[]) ∧ Box w' q TO arr' ∧ Chg (Is q) w2 w') := hcl
  clear hcl
  have hne' : ¬ q = o := fun e => hne e.symm
  have hpo' : ¬ o = pb := fun e => hpo e.symm
  have HCMP : Hid (∀ w2 : World, w2.heap = (w.setCell ⟨o, 1 + lv, none⟩ (.pointer u1)).heap → (binOp .neq 87 (.pointer u0) (.pointer u1)).run Tryd.prog w2 = .ok (.bool false) w2) := hcmp
  clear hcmp
  have cell_of : ∀ (w2 w3 : World) (a : Addr), w2.heap = w3.heap → w2.cell? a = w3.cell? a := fun w2 w3 a e => by unfold World.cell?; rw [e]
  have froz_of : ∀ (w2 w3 : World) (a : Addr), w2.heap = w3.heap → w2.frozen? a = w3.frozen? a := fun w2 w3 a e => by unfold World.frozen?; rw [e]
  have HL : Hid (∀ w2 : World, w2.heap = (w.setCell ⟨o, 1 + lv, none⟩ (.pointer u1)).heap → w2.cell? ⟨pb, po + 1 + lv, none⟩ = some (.pointer u0)) := fun w2 e => by rw [cell_of _ _ _ e]; exact hlk
  have HF : Hid (∀ w2 : World, w2.heap = (w.setCell ⟨o, 1 + lv, none⟩ (.pointer u1)).heap → w2.frozen? ⟨pb, po + 1 + lv, none⟩ = false) := fun w2 e => by rw [froz_of _ _ _ e]; exact hlf
  clear cell_of froz_of hlk hlf
  go_enter Tryd.func82, Tryd.ntmps82
  go_wp2
  go_region
  go_wp2
  go_region_held3 (fun w' => w'.cell? ⟨q, 0, none⟩ = some (at_ o) ∧ w'.cell? ⟨q, 2, none⟩ = some (.int .i64 (lv : Int)) ∧ w'.cell? ⟨q, 3, none⟩ = some (.pointer (some ⟨pb, po, none⟩)) ∧ w'.cell? ⟨q, 4, none⟩ = some (.pointer u1)) (first | exact ⟨c0, c2, c3, c4⟩ | go_keep)
    (first | (go_at_call 90; refine (swap_yes hl (HL.out _ (by rfl)) (HF.out _ (by rfl)) (HCMP.out _ (by rfl))).mono ?_; rintro _ _ ⟨rfl, rfl⟩))
  go_wp2_with fail
  refine (HCL.out _ (by rfl)).mono ?_
  rintro _ w3 ⟨rfl, hb3, hc3⟩
  have HB3 : Hid (Box w3 q TO arr') := hb3
  have HC3 : Hid (Chg (Is q) ((w.setCell ⟨o, 1 + lv, none⟩ (.pointer u1)).setCell ⟨pb, po + 1 + lv, none⟩ (at_ o)) w3) := hc3.heap rfl rfl rfl rfl
  clear hb3 hc3
  go_wp2
  go_returns
  exact ⟨rfl, HB3.out, HC3.out⟩
end
end Go.Proofs.YtnggajconglfcaaDoor
