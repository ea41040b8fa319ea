/- The contracts of swap and climb. -/
import Derived.Test.YtnggajconglfcaaDoorS7Pass
import Derived.Laws.EntriesVeiled
namespace Go.Proofs.YtnggajconglfcaaDoor
open Go.RowKit
set_option linter.unusedVariables false
theorem done14 {w : World} {q : Nat} {c : OC} (h : Box w q TO c.arr) : Box ((((((((((((((w.setCell ⟨q, 0, none⟩ (.pointer none)).setCell ⟨q, 1, none⟩ (.int .i64 0)).setCell ⟨q, 2, none⟩ (.int .i64 0)).setCell ⟨q, 3, none⟩ (.pointer none)).setCell ⟨q, 4, none⟩ (.pointer none)).setCell ⟨q, 5, none⟩ (.pointer none)).setCell ⟨q, 6, none⟩ (.pointer none)).setCell ⟨q, 7, none⟩ (.pointer none)).setCell ⟨q, 8, none⟩ (.pointer none)).setCell ⟨q, 9, none⟩ (.pointer none)).setCell ⟨q, 10, none⟩ (.pointer none)).setCell ⟨q, 11, none⟩ (.pointer none)).setCell ⟨q, 12, none⟩ (.pointer none)).setCell ⟨q, 13, none⟩ (.nilFunc)) q TO doneArr := by
  have e := ((((((((((((((h.set 0 (.pointer none)).set 1 (.int .i64 0)).set 2 (.int .i64 0)).set 3 (.pointer none)).set 4 (.pointer none)).set 5 (.pointer none)).set 6 (.pointer none)).set 7 (.pointer none)).set 8 (.pointer none)).set 9 (.pointer none)).set 10 (.pointer none)).set 11 (.pointer none)).set 12 (.pointer none)).set 13 (.nilFunc))
  refine Box.eq e ?_
  simp [OC.arr, doneArr]
theorem done14_chg {w0 w : World} {q : Nat} (h : Chg (Is q) w0 w) : Chg (Is q) w0 ((((((((((((((w.setCell ⟨q, 0, none⟩ (.pointer none)).setCell ⟨q, 1, none⟩ (.int .i64 0)).setCell ⟨q, 2, none⟩ (.int .i64 0)).setCell ⟨q, 3, none⟩ (.pointer none)).setCell ⟨q, 4, none⟩ (.pointer none)).setCell ⟨q, 5, none⟩ (.pointer none)).setCell ⟨q, 6, none⟩ (.pointer none)).setCell ⟨q, 7, none⟩ (.pointer none)).setCell ⟨q, 8, none⟩ (.pointer none)).setCell ⟨q, 9, none⟩ (.pointer none)).setCell ⟨q, 10, none⟩ (.pointer none)).setCell ⟨q, 11, none⟩ (.pointer none)).setCell ⟨q, 12, none⟩ (.pointer none)).setCell ⟨q, 13, none⟩ (.nilFunc)) :=
  ((((((((((((((h.put 0 _).put 1 _).put 2 _).put 3 _).put 4 _).put 5 _).put 6 _).put 7 _).put 8 _).put 9 _).put 10 _).put 11 _).put 12 _).put 13 _)
theorem mk_func' (fn : Fn) (first cap : Array Value) (w : World) : (Instr.makeFunc fn first cap).run Tryd.prog w = .ok (.func fn first cap) w := rfl
section
variable {w : World} {q pb po b o hh lv : Nat} {seen next : Value} {ah : Nat → Value}
set_option maxRecDepth 100000 in
set_option maxHeartbeats 1000000 in
theorem swap_any {u0 u1 : Option Addr} {ob oo : Nat} {r : Bool} (hl : lv < 8) (hc : w.cell? ⟨pb, po + 1 + lv, none⟩ = some (.pointer u0)) (hf : w.frozen? ⟨pb, po + 1 + lv, none⟩ = false) (hne : (binOp .neq 87 (.pointer u0) (.pointer u1)).run Tryd.prog w = .ok (.bool (!r)) w) :
    Calls Tryd.prog 90 #[.pointer (some ⟨pb, po, none⟩), .int .i64 (lv : Int), .pointer u1, .pointer (some ⟨ob, oo, none⟩)] w fun e w' => e = .returned (.bool r) ∧ w' = if r then w.setCell ⟨pb, po + 1 + lv, none⟩ (.pointer (some ⟨ob, oo, none⟩)) else w := by
  cases r
  · simp only [Bool.not_false] at hne
    go_enter Tryd.func90, Tryd.ntmps90
    go_wp2
    go_returns
    exact ⟨rfl, rfl⟩
  · simp only [Bool.not_true] at hne
    go_enter Tryd.func90, Tryd.ntmps90
    go_wp2
    go_returns
    exact ⟨rfl, rfl⟩
set_option maxRecDepth 100000 in
set_option maxHeartbeats 1000000 in
theorem climb_on {ab ao : Nat} (h : Box w q TO (OC.arr ⟨at_ o, hh, lv, ⟨pb, po, none⟩, seen, ah, next⟩)) (hl : lv + 1 < 8) (hh8 : hh ≤ 8) (hne : lv + 1 ≠ hh) (ha : ah (lv + 1) = .pointer (some ⟨ab, ao, none⟩)) :
    Calls Tryd.prog 92 #[at_ q] w fun e w' => e = .returned (.tuple #[]) ∧ Box w' q TO (OC.arr ⟨at_ o, hh, lv + 1, ⟨ab, ao, none⟩, seen, ah, nextV q 2⟩) ∧ Chg (Is q) w w' := by
  have HB : Hid (Box w q TO (OC.arr ⟨at_ o, hh, lv, ⟨pb, po, none⟩, seen, ah, next⟩)) := h
  have c1 := h.cell 1
  have c2 := h.cell 2
  have c3 := h.cell 3
  have c13 := h.cell 13
  have f2 := h.soft 2
  have f3 := h.soft 3
  have f13 := h.soft 13
  have c5 := h.cell (5 + (lv + 1))
  rw [opArr_at hl] at c5
  simp only [ha] at c5
  simp [OC.arr] at c1 c2 c3 c13
  clear h ha
  have hmf := mk_func'
  have hne' : ((lv : Int) + 1 == (hh : Int)) = false := by simp; omega
  clear hne
  go_enter Tryd.func92, Tryd.ntmps92
  go_wp2
  go_quiet (fail)
  go_wp2
  go_region
  go_wp2
  go_returns
  refine ⟨rfl, ?_, ?_⟩
  · have hlv : ((lv : Int) + 1) = ((lv + 1 : Nat) : Int) := by omega
    rw [hlv]
    exact (((HB.out.set 2 (.int .i64 ((lv + 1 : Nat) : Int))).set 3 (.pointer (some ⟨ab, ao, none⟩))).set 13 (nextV q 2)).eq (by rw [OC.set_lv, OC.set_pos, OC.set_next])
  · exact ((((Chg.refl _ _).put 2 _).drewN _).put 3 _).put 13 _
set_option maxRecDepth 100000 in
set_option maxHeartbeats 1000000 in
theorem climb_end (h : Box w q TO (OC.arr ⟨at_ o, hh, lv, ⟨pb, po, none⟩, seen, ah, next⟩)) (hl : lv < 8) (he : lv + 1 = hh) :
    Calls Tryd.prog 92 #[at_ q] w fun e w' => e = .returned (.tuple #[]) ∧ Box w' q TO doneArr ∧ Chg (Is q) w w' := by
  have HB : Hid (Box w q TO (OC.arr ⟨at_ o, hh, lv, ⟨pb, po, none⟩, seen, ah, next⟩)) := h
  have c0 := h.cell 0
  have c1 := h.cell 1
  have c2 := h.cell 2
  have c3 := h.cell 3
  have c4 := h.cell 4
  have c5 := h.cell 5
  have c6 := h.cell 6
  have c7 := h.cell 7
  have c8 := h.cell 8
  have c9 := h.cell 9
  have c10 := h.cell 10
  have c11 := h.cell 11
  have c12 := h.cell 12
  have c13 := h.cell 13
  have f := h.soft
  simp [OC.arr] at c0 c1 c2 c3 c4 c5 c6 c7 c8 c9 c10 c11 c12 c13
  clear h
  have hne' : ((lv : Int) + 1 == (hh : Int)) = true := by simp; omega
  clear he
  go_enter Tryd.func92, Tryd.ntmps92
  go_wp2
  go_quiet (fail)
  go_wp2
  go_returns
  refine ⟨rfl, ?_, ?_⟩
  · have hb : Box (w.setCell ⟨q, 2, none⟩ (.int .i64 ((lv : Int) + 1))) q TO (OC.arr ⟨at_ o, hh, lv + 1, ⟨pb, po, none⟩, seen, ah, next⟩) := by
      have hlv : ((lv : Int) + 1) = ((lv + 1 : Nat) : Int) := by omega
      rw [hlv]
      exact (HB.out.set 2 (.int .i64 ((lv + 1 : Nat) : Int))).eq (OC.set_lv _ _)
    exact done14 (w := (w.setCell ⟨q, 2, none⟩ (.int .i64 ((lv : Int) + 1))).drewN nq) hb
  · exact done14_chg (((Chg.refl _ _).put 2 _).drewN _)
end
end Go.Proofs.YtnggajconglfcaaDoor
