/- The contracts of an operation's pass. -/
import Derived.Test.YtnggajconglfcaaDoorPdMem
import Derived.Deep.RegionWith
import Derived.BigQuiet
import Derived.Laws.EntriesVeiled
namespace Go.Proofs.YtnggajconglfcaaDoor
open Go.RowKit
set_option linter.unusedVariables false
theorem OC.set_seen (c : OC) (x : Value) : c.arr.setIfInBounds 4 x = OC.arr { c with seen := x } := by simp [OC.arr]
theorem OC.set_pos (c : OC) (a : Addr) : c.arr.setIfInBounds 3 (.pointer (some a)) = OC.arr { c with pos := a } := by simp [OC.arr]
theorem OC.set_next (c : OC) (x : Value) : c.arr.setIfInBounds 13 x = OC.arr { c with next := x } := by simp [OC.arr]
theorem OC.set_lv (c : OC) (x : Nat) : c.arr.setIfInBounds 2 (.int .i64 (x : Int)) = OC.arr { c with lv := x } := by simp [OC.arr]
abbrev Is (q k : Nat) : Prop := k = q
theorem Chg.drewN {R : Nat → Prop} {w w' : World} (h : Chg R w w') (n : Nat) : Chg R w (w'.drewN n) := ⟨h.os, h.tape, h.output, h.size, h.block⟩
theorem Chg.put {w w' : World} {q : Nat} (h : Chg (Is q) w w') (j : Nat) (v : Value) : Chg (Is q) w (w'.setCell ⟨q, j, none⟩ v) := h.set (fun _ => rfl) j v
section
variable {w : World} {q pb po b o hh lv : Nat} {seen next : Value} {ah : Nat → Value} {k k' : ByteArray}
set_option maxRecDepth 100000 in
set_option maxHeartbeats 1000000 in
theorem pass_lt (h : Box w q TO (OC.arr ⟨at_ o, hh, lv, ⟨pb, po, none⟩, seen, ah, next⟩)) (hl : lv < 8)
    (hs : w.cell? ⟨pb, po + 1 + lv, none⟩ = some (at_ b)) (hk : w.cell? ⟨b, 0, none⟩ = some (.string k)) (hk' : w.cell? ⟨o, 0, none⟩ = some (.string k')) (hqb : b ≠ q) (hqo : o ≠ q) (hlt : kl k k' = true) :
    Calls Tryd.prog 81 #[at_ q] w fun e w' => e = .returned (.bool true) ∧ Box w' q TO (OC.arr ⟨at_ o, hh, lv, ⟨b, 0, none⟩, at_ b, ah, next⟩) ∧ Chg (Is q) w w' := by
  have HB : Hid (Box w q TO (OC.arr ⟨at_ o, hh, lv, ⟨pb, po, none⟩, seen, ah, next⟩)) := h
  have c0 := h.cell 0
  have c2 := h.cell 2
  have c3 := h.cell 3
  have c4 := h.cell 4
  have f3 := h.soft 3
  have f4 := h.soft 4
  simp [OC.arr] at c0 c2 c3 c4
  clear h
  have hge : ∀ w, (binOp .geq 9 (.string k) (.string k')).run Tryd.prog w = .ok (.bool false) w := fun w => by rw [str_geq]; unfold kl at hlt; rw [hlt]; rfl
  clear hlt
  go_enter Tryd.func81, Tryd.ntmps81
  go_wp2
  go_region
  go_wp2
  go_quiet (fail)
  go_wp2
  go_ret
  refine ⟨rfl, ?_, ?_⟩
  · exact ((HB.out.set 4 (at_ b)).set 3 (at_ b)).eq (by rw [OC.set_seen, OC.set_pos])
  · exact (((Chg.refl _ _).put 4 _).drewN _).put 3 _
set_option maxRecDepth 100000 in
set_option maxHeartbeats 1000000 in
theorem pass_ge (h : Box w q TO (OC.arr ⟨at_ o, hh, lv, ⟨pb, po, none⟩, seen, ah, next⟩)) (hl : lv < 8)
    (hs : w.cell? ⟨pb, po + 1 + lv, none⟩ = some (at_ b)) (hk : w.cell? ⟨b, 0, none⟩ = some (.string k)) (hk' : w.cell? ⟨o, 0, none⟩ = some (.string k')) (hqb : b ≠ q) (hqo : o ≠ q) (hlt : kl k k' = false) :
    Calls Tryd.prog 81 #[at_ q] w fun e w' => e = .returned (.bool false) ∧ Box w' q TO (OC.arr ⟨at_ o, hh, lv, ⟨pb, po, none⟩, at_ b, ah, next⟩) ∧ Chg (Is q) w w' := by
  have HB : Hid (Box w q TO (OC.arr ⟨at_ o, hh, lv, ⟨pb, po, none⟩, seen, ah, next⟩)) := h
  have c0 := h.cell 0
  have c2 := h.cell 2
  have c3 := h.cell 3
  have c4 := h.cell 4
  have f3 := h.soft 3
  have f4 := h.soft 4
  simp [OC.arr] at c0 c2 c3 c4
  clear h
  have hge : ∀ w, (binOp .geq 9 (.string k) (.string k')).run Tryd.prog w = .ok (.bool true) w := fun w => by rw [str_geq]; unfold kl at hlt; rw [hlt]; rfl
  clear hlt
  go_enter Tryd.func81, Tryd.ntmps81
  go_wp2
  go_region
  go_wp2
  go_quiet (fail)
  go_wp2
  go_ret
  refine ⟨rfl, ?_, ?_⟩
  · exact (HB.out.set 4 _).eq (OC.set_seen _ _)
  · exact (((Chg.refl _ _).put 4 _).drew.drewN _)
set_option maxRecDepth 100000 in
set_option maxHeartbeats 1000000 in
theorem pass_nil (h : Box w q TO (OC.arr ⟨at_ o, hh, lv, ⟨pb, po, none⟩, seen, ah, next⟩)) (hl : lv < 8)
    (hs : w.cell? ⟨pb, po + 1 + lv, none⟩ = some (.pointer none)) :
    Calls Tryd.prog 81 #[at_ q] w fun e w' => e = .returned (.bool false) ∧ Box w' q TO (OC.arr ⟨at_ o, hh, lv, ⟨pb, po, none⟩, .pointer none, ah, next⟩) ∧ Chg (Is q) w w' := by
  have HB : Hid (Box w q TO (OC.arr ⟨at_ o, hh, lv, ⟨pb, po, none⟩, seen, ah, next⟩)) := h
  have c0 := h.cell 0
  have c2 := h.cell 2
  have c3 := h.cell 3
  have c4 := h.cell 4
  have f3 := h.soft 3
  have f4 := h.soft 4
  simp [OC.arr] at c0 c2 c3 c4
  clear h
  go_enter Tryd.func81, Tryd.ntmps81
  go_wp2
  go_region
  go_wp2
  go_quiet (fail)
  go_wp2
  go_ret
  refine ⟨rfl, ?_, ?_⟩
  · exact (HB.out.set 4 _).eq (OC.set_seen _ _)
  · exact (((Chg.refl _ _).put 4 _).drew.drewN _)
end
end Go.Proofs.YtnggajconglfcaaDoor
/- One operation of a list is set; what became of the list. -/
namespace Go.Proofs.YtnggajconglfcaaDoor
open Go.RowKit
section
variable {w w' : World} {p : Nat} {S : PS} {g : SG} {i : Nat} {o : PO}
theorem SkAt.opTag (h : SkAt w p S g) (hi : i < S.ops.length) : tag w (g.o i) = some TO := by
  obtain ⟨arr, hb⟩ := h.opBox hi
  exact hb.tag
theorem SkAt.nodeTag (h : SkAt w p S g) (hi : i < S.ops.length) : tag w (g.n i) = some TN := by
  obtain ⟨arr, hb⟩ := h.nodeBox hi
  exact hb.tag
theorem SkAt.rowTag (h : SkAt w p S g) {b : Nat} (e : (Value.slice g.a S.ops.length g.c).ownBlock = some b) : tag w b = some TP := row_tag h.row e
theorem SkAt.mapTag (h : SkAt w p S g) : tag w g.m = some 1000 := by
  obtain ⟨D, h1, _⟩ := h.map
  exact tag_map h1
theorem PS.put_keys (hk : o.key = S.key i) {lev : Nat → List Nat} : (S.put i o lev).keys = S.keys := by
  unfold PS.keys PS.put
  simp only
  refine List.ext_getElem (by simp) fun k h1 h2 => ?_
  simp only [List.getElem_map, List.getElem_set]
  split
  · rename_i e
    subst e
    simp at h2
    rw [hk]
    simp [PS.key, PS.op, List.getD, h2]
  · rfl
theorem PS.put_idx {lev : Nat → List Nat} (j : Nat) (P : PO → Prop) (hi : i < S.ops.length) (h1 : P o) (h2 : j ≠ i → P (S.op j)) : P ((S.put i o lev).op j) := by
  by_cases e : j = i
  · subst e
    rw [PS.put_op hi]
    exact h1
  · rw [PS.put_other e]
    exact h2 e
theorem SkAt.setOp (h : SkAt w p S g) (hi : i < S.ops.length) (hc : Chg (Is (g.o i)) w w') (hinv : (S.put i o S.lev).Inv) (hk : o.key = S.key i) (hop : OpIs w' p g i o) : SkAt w' p (S.put i o S.lev) g where
  inv := hinv
  head := by
    have := h.head.kept (hc.block p h.head.lt (tag_ne h.head.tag (h.opTag hi) (by decide)))
    rw [PS.put_len]
    exact this
  nlen := by rw [PS.put_len]; exact h.nlen
  olen := by rw [PS.put_len]; exact h.olen
  ond := h.ond
  node := fun j hj => by
    rw [PS.put_len] at hj
    rw [PS.put_key hk]
    exact (h.node j hj).kept (hc.block _ (tag_lt (h.nodeTag hj)) (tag_ne (h.nodeTag hj) (h.opTag hi) (by decide)))
  op := fun j hj => by
    rw [PS.put_len] at hj
    by_cases e : j = i
    · subst e
      rw [PS.put_op hi]
      exact hop
    · rw [PS.put_other e]
      exact (h.op j hj).kept (hc.block _ (tag_lt (h.opTag hj)) (fun e' => e (h.oinj hj hi e')))
  row := by
    rw [PS.put_len]
    exact row_same h.row fun b e => hc.block b (tag_lt (h.rowTag e)) (tag_ne (h.rowTag e) (h.opTag hi) (by decide))
  map := by
    obtain ⟨D, h1, h2⟩ := h.map
    rw [PS.put_len, PS.put_keys hk]
    exact ⟨D, map_kept h1 (hc.block _ (tag_lt h.mapTag) (tag_ne h.mapTag (h.opTag hi) (by decide))), h2⟩
theorem SkAt.isFoot (h : SkAt w p S g) (hi : i < S.ops.length) (hc : Chg (Is (g.o i)) w w') : Chg (Foot p g) w w' := hc.wide fun k _ e => .inr (.inr (.inl (by rw [e]; exact SG.o_mem (by rw [h.olen]; exact hi))))
/-- What pass does to an operation. -/
structure Passed (w w' : World) (p : Nat) (g : SG) (S : PS) (i : Nat) (ah : Nat → Value) (r : Bool) : Prop where
  box : Box w' (g.o i) TO (OC.arr ⟨at_ (g.n i), (S.op i).height, (S.op i).level, plc p g (if r then (S.went i).pos else (S.op i).pos), lnk g (S.nx i), ah, nextV (g.o i) (S.op i).ph⟩)
  chg : Chg (Is (g.o i)) w w'
theorem pass_at (h : SkAt w p S g) (hi : i < S.ops.length) (h3 : (S.op i).ph ≠ 3) {ah : Nat → Value} (hb : Box w (g.o i) TO (OC.arr ⟨at_ (g.n i), (S.op i).height, (S.op i).level, plc p g (S.op i).pos, lnk g (S.op i).seen, ah, nextV (g.o i) (S.op i).ph⟩)) :
    Calls Tryd.prog 81 #[at_ (g.o i)] w fun e w' => e = .returned (.bool (S.goes i)) ∧ Passed w w' p g S i ah (S.goes i) := by
  have ok := h.inv.ok i hi
  have h8 := (ok.low h3).1
  have hlink := h.link h8 (ok.pos h3).inL
  have hko := h.keyCell hi
  have hno := tag_ne (h.nodeTag hi) (h.opTag hi) (by decide)
  have hpl : plc p g (S.op i).pos = ⟨(plc p g (S.op i).pos).block, (plc p g (S.op i).pos).off, none⟩ := by cases (S.op i).pos <;> rfl
  rw [hpl] at hb
  cases hn : nxt (S.lev (S.op i).level) (S.op i).pos with
  | none =>
    rw [hn] at hlink
    have hg : S.goes i = false := by simp [PS.goes, PS.nx, hn]
    refine (pass_nil hb h8 hlink).mono ?_
    rintro e w' ⟨rfl, h1, h2⟩
    rw [hg]
    refine ⟨rfl, ?_, h2⟩
    rw [← hpl] at h1
    simpa [PS.nx, hn, lnk] using h1
  | some j =>
    rw [hn] at hlink
    have hj : j < S.ops.length := h.inv.lt h8 (nxt_mem hn)
    have hkj := h.keyCell hj
    have hnj := tag_ne (h.nodeTag hj) (h.opTag hi) (by decide)
    cases hg : kl (S.key j) (S.key i) with
    | true =>
      have hg' : S.goes i = true := by simp [PS.goes, PS.nx, hn, hg]
      refine (pass_lt hb h8 hlink hkj hko hnj hno hg).mono ?_
      rintro e w' ⟨rfl, h1, h2⟩
      rw [hg']
      refine ⟨rfl, ?_, h2⟩
      simpa [PS.nx, hn, lnk, PS.went, plc] using h1
    | false =>
      have hg' : S.goes i = false := by simp [PS.goes, PS.nx, hn, hg]
      refine (pass_ge hb h8 hlink hkj hko hnj hno hg).mono ?_
      rintro e w' ⟨rfl, h1, h2⟩
      rw [hg']
      refine ⟨rfl, ?_, h2⟩
      rw [← hpl] at h1
      simpa [PS.nx, hn, lnk] using h1
end
end Go.Proofs.YtnggajconglfcaaDoor
/- The contracts of swap and climb. -/
namespace Go.Proofs.YtnggajconglfcaaDoor
open Go.RowKit
set_option linter.unusedVariables false
theorem done14 {w : World} {q : Nat} {c : OC} (h : Box w q TO c.arr) : Box ((((((((((((((w.setCell ⟨q, 0, none⟩ (.pointer none)).setCell ⟨q, 1, none⟩ (.int .i64 0)).setCell ⟨q, 2, none⟩ (.int .i64 0)).setCell ⟨q, 3, none⟩ (.pointer none)).setCell ⟨q, 4, none⟩ (.pointer none)).setCell ⟨q, 5, none⟩ (.pointer none)).setCell ⟨q, 6, none⟩ (.pointer none)).setCell ⟨q, 7, none⟩ (.pointer none)).setCell ⟨q, 8, none⟩ (.pointer none)).setCell ⟨q, 9, none⟩ (.pointer none)).setCell ⟨q, 10, none⟩ (.pointer none)).setCell ⟨q, 11, none⟩ (.pointer none)).setCell ⟨q, 12, none⟩ (.pointer none)).setCell ⟨q, 13, none⟩ (.nilFunc)) q TO doneArr := by
  have e := ((((((((((((((h.set 0 (.pointer none)).set 1 (.int .i64 0)).set 2 (.int .i64 0)).set 3 (.pointer none)).set 4 (.pointer none)).set 5 (.pointer none)).set 6 (.pointer none)).set 7 (.pointer none)).set 8 (.pointer none)).set 9 (.pointer none)).set 10 (.pointer none)).set 11 (.pointer none)).set 12 (.pointer none)).set 13 (.nilFunc))
  refine Box.eq e ?_
  simp [OC.arr, doneArr]
theorem done14_chg {w0 w : World} {q : Nat} (h : Chg (Is q) w0 w) : Chg (Is q) w0 ((((((((((((((w.setCell ⟨q, 0, none⟩ (.pointer none)).setCell ⟨q, 1, none⟩ (.int .i64 0)).setCell ⟨q, 2, none⟩ (.int .i64 0)).setCell ⟨q, 3, none⟩ (.pointer none)).setCell ⟨q, 4, none⟩ (.pointer none)).setCell ⟨q, 5, none⟩ (.pointer none)).setCell ⟨q, 6, none⟩ (.pointer none)).setCell ⟨q, 7, none⟩ (.pointer none)).setCell ⟨q, 8, none⟩ (.pointer none)).setCell ⟨q, 9, none⟩ (.pointer none)).setCell ⟨q, 10, none⟩ (.pointer none)).setCell ⟨q, 11, none⟩ (.pointer none)).setCell ⟨q, 12, none⟩ (.pointer none)).setCell ⟨q, 13, none⟩ (.nilFunc)) :=
  ((((((((((((((h.put 0 _).put 1 _).put 2 _).put 3 _).put 4 _).put 5 _).put 6 _).put 7 _).put 8 _).put 9 _).put 10 _).put 11 _).put 12 _).put 13 _)
theorem mk_func' (fn : Fn) (first cap : Array Value) (w : World) : (Instr.makeFunc fn first cap).run Tryd.prog w = .ok (.func fn first cap) w := rfl
section
variable {w : World} {q pb po b o hh lv : Nat} {seen next : Value} {ah : Nat → Value}
set_option maxRecDepth 100000 in
set_option maxHeartbeats 1000000 in
theorem swap_any {u0 u1 : Option Addr} {ob oo : Nat} {r : Bool} (hl : lv < 8) (hc : w.cell? ⟨pb, po + 1 + lv, none⟩ = some (.pointer u0)) (hf : w.frozen? ⟨pb, po + 1 + lv, none⟩ = false) (hne : (binOp .neq 87 (.pointer u0) (.pointer u1)).run Tryd.prog w = .ok (.bool (!r)) w) :
    Calls Tryd.prog 90 #[.pointer (some ⟨pb, po, none⟩), .int .i64 (lv : Int), .pointer u1, .pointer (some ⟨ob, oo, none⟩)] w fun e w' => e = .returned (.bool r) ∧ w' = if r then w.setCell ⟨pb, po + 1 + lv, none⟩ (.pointer (some ⟨ob, oo, none⟩)) else w := by
  cases r
  · simp only [Bool.not_false] at hne
    go_enter Tryd.func90, Tryd.ntmps90
    go_wp2
    go_returns
    exact ⟨rfl, rfl⟩
  · simp only [Bool.not_true] at hne
    go_enter Tryd.func90, Tryd.ntmps90
    go_wp2
    go_returns
    exact ⟨rfl, rfl⟩
set_option maxRecDepth 100000 in
set_option maxHeartbeats 1000000 in
theorem climb_on {ab ao : Nat} (h : Box w q TO (OC.arr ⟨at_ o, hh, lv, ⟨pb, po, none⟩, seen, ah, next⟩)) (hl : lv + 1 < 8) (hh8 : hh ≤ 8) (hne : lv + 1 ≠ hh) (ha : ah (lv + 1) = .pointer (some ⟨ab, ao, none⟩)) :
    Calls Tryd.prog 92 #[at_ q] w fun e w' => e = .returned (.tuple #[]) ∧ Box w' q TO (OC.arr ⟨at_ o, hh, lv + 1, ⟨ab, ao, none⟩, seen, ah, nextV q 2⟩) ∧ Chg (Is q) w w' := by
  have HB : Hid (Box w q TO (OC.arr ⟨at_ o, hh, lv, ⟨pb, po, none⟩, seen, ah, next⟩)) := h
  have c1 := h.cell 1
  have c2 := h.cell 2
  have c3 := h.cell 3
  have c13 := h.cell 13
  have f2 := h.soft 2
  have f3 := h.soft 3
  have f13 := h.soft 13
  have c5 := h.cell (5 + (lv + 1))
  rw [opArr_at hl] at c5
  simp only [ha] at c5
  simp [OC.arr] at c1 c2 c3 c13
  clear h ha
  have hmf := mk_func'
  have hne' : ((lv : Int) + 1 == (hh : Int)) = false := by simp; omega
  clear hne
  go_enter Tryd.func92, Tryd.ntmps92
  go_wp2
  go_quiet (fail)
  go_wp2
  go_region
  go_wp2
  go_returns
  refine ⟨rfl, ?_, ?_⟩
  · have hlv : ((lv : Int) + 1) = ((lv + 1 : Nat) : Int) := by omega
    rw [hlv]
    exact (((HB.out.set 2 (.int .i64 ((lv + 1 : Nat) : Int))).set 3 (.pointer (some ⟨ab, ao, none⟩))).set 13 (nextV q 2)).eq (by rw [OC.set_lv, OC.set_pos, OC.set_next])
  · exact ((((Chg.refl _ _).put 2 _).drewN _).put 3 _).put 13 _
set_option maxRecDepth 100000 in
set_option maxHeartbeats 1000000 in
theorem climb_end (h : Box w q TO (OC.arr ⟨at_ o, hh, lv, ⟨pb, po, none⟩, seen, ah, next⟩)) (hl : lv < 8) (he : lv + 1 = hh) :
    Calls Tryd.prog 92 #[at_ q] w fun e w' => e = .returned (.tuple #[]) ∧ Box w' q TO doneArr ∧ Chg (Is q) w w' := by
  have HB : Hid (Box w q TO (OC.arr ⟨at_ o, hh, lv, ⟨pb, po, none⟩, seen, ah, next⟩)) := h
  have c0 := h.cell 0
  have c1 := h.cell 1
  have c2 := h.cell 2
  have c3 := h.cell 3
  have c4 := h.cell 4
  have c5 := h.cell 5
  have c6 := h.cell 6
  have c7 := h.cell 7
  have c8 := h.cell 8
  have c9 := h.cell 9
  have c10 := h.cell 10
  have c11 := h.cell 11
  have c12 := h.cell 12
  have c13 := h.cell 13
  have f := h.soft
  simp [OC.arr] at c0 c1 c2 c3 c4 c5 c6 c7 c8 c9 c10 c11 c12 c13
  clear h
  have hne' : ((lv : Int) + 1 == (hh : Int)) = true := by simp; omega
  clear he
  go_enter Tryd.func92, Tryd.ntmps92
  go_wp2
  go_quiet (fail)
  go_wp2
  go_returns
  refine ⟨rfl, ?_, ?_⟩
  · have hb : Box (w.setCell ⟨q, 2, none⟩ (.int .i64 ((lv : Int) + 1))) q TO (OC.arr ⟨at_ o, hh, lv + 1, ⟨pb, po, none⟩, seen, ah, next⟩) := by
      have hlv : ((lv : Int) + 1) = ((lv + 1 : Nat) : Int) := by omega
      rw [hlv]
      exact (HB.out.set 2 (.int .i64 ((lv + 1 : Nat) : Int))).eq (OC.set_lv _ _)
    exact done14 (w := (w.setCell ⟨q, 2, none⟩ (.int .i64 ((lv : Int) + 1))).drewN nq) hb
  · exact done14_chg (((Chg.refl _ _).put 2 _).drewN _)
end
end Go.Proofs.YtnggajconglfcaaDoor
/- The contracts of descend and look. -/
namespace Go.Proofs.YtnggajconglfcaaDoor
open Go.RowKit
set_option linter.unusedVariables false
theorem mk_func (fn : Fn) (first cap : Array Value) (w : World) : (Instr.makeFunc fn first cap).run Tryd.prog w = .ok (.func fn first cap) w := rfl
theorem SkAt.opOpen {w : World} {p : Nat} {S : PS} {g : SG} {i : Nat} (h : SkAt w p S g) (hi : i < S.ops.length) (h3 : (S.op i).ph ≠ 3) : ∃ ah : Nat → Value, (∀ l, (S.op i).level < l → l < 8 → ah l = .pointer (some (plc p g ((S.op i).ahead l)))) ∧ Box w (g.o i) TO (OC.arr ⟨at_ (g.n i), (S.op i).height, (S.op i).level, plc p g (S.op i).pos, lnk g (S.op i).seen, ah, nextV (g.o i) (S.op i).ph⟩) := by
  have := h.op i hi
  unfold OpIs at this
  rw [if_neg h3] at this
  exact this
theorem OpIs.mk {w : World} {p : Nat} {g : SG} {i : Nat} {o : PO} (h3 : o.ph ≠ 3) (ah : Nat → Value) (h1 : ∀ l, o.level < l → l < 8 → ah l = .pointer (some (plc p g (o.ahead l)))) (h2 : Box w (g.o i) TO (OC.arr ⟨at_ (g.n i), o.height, o.level, plc p g o.pos, lnk g o.seen, ah, nextV (g.o i) o.ph⟩)) : OpIs w p g i o := by
  unfold OpIs
  rw [if_neg h3]
  exact ⟨ah, h1, h2⟩
section
variable {w : World} {p : Nat} {S : PS} {g : SG} {i : Nat}
set_option maxRecDepth 100000 in
set_option maxHeartbeats 1000000 in
theorem descend_at (h : SkAt w p S g) (hi : i < S.ops.length) (h0 : (S.op i).ph = 0) : Calls Tryd.prog 73 #[at_ (g.o i)] w fun e w' => e = .returned (.tuple #[]) ∧ SkAt w' p (S.step i) g ∧ Chg (Foot p g) w w' := by
  have h3 : (S.op i).ph ≠ 3 := by omega
  obtain ⟨ah, hah, hb⟩ := h.opOpen hi h3
  have HP := pass_at h hi h3 hb
  have h8 := ((h.inv.ok i hi).low h3).1
  have HS : Hid (SkAt w p S g ∧ (∀ l, (S.op i).level < l → l < 8 → ah l = .pointer (some (plc p g ((S.op i).ahead l))))) := ⟨h, hah⟩
  clear h hah hb
  have hmf := mk_func
  cases hg : S.goes i with
  | true =>
    rw [hg] at HP
    have HG : Hid (S.goes i = true) := hg
    clear hg
    go_enter Tryd.func73, Tryd.ntmps73
    go_wp2_with fail
    refine HP.mono ?_
    rintro _ w1 ⟨rfl, h1, h2⟩
    go_wp2
    go_returns
    have hs := HS.out.1
    refine ⟨rfl, ?_, hs.isFoot hi h2⟩
    unfold PS.step
    rw [if_pos h0, if_pos HG.out]
    exact hs.setOp hi h2 (hs.inv.went hi (.inl h0) HG.out) rfl (OpIs.mk h3 ah HS.out.2 h1)
  | false =>
    rw [hg] at HP
    have HG : Hid (S.goes i = false) := hg
    clear hg
    go_enter Tryd.func73, Tryd.ntmps73
    go_wp2_with fail
    refine HP.mono ?_
    rintro _ w1 ⟨rfl, h1, h2⟩
    rw [if_neg (by decide)] at h1
    have c2 := h1.cell 2
    have c3 := h1.cell 3
    have c5 := h1.cell (5 + (S.op i).level)
    have f5 := h1.soft (5 + (S.op i).level)
    have f2 := h1.soft 2
    have f13 := h1.soft 13
    have c13 := h1.cell 13
    rw [opArr_at h8] at c5
    simp [OC.arr] at c2 c3 c5 c13
    have HX := h1.set (5 + (S.op i).level) (.pointer (some (plc p g (S.op i).pos)))
    rw [opArr_set h8] at HX
    have HH : Hid (Box (w1.setCell ⟨g.o i, 5 + (S.op i).level, none⟩ (.pointer (some (plc p g (S.op i).pos)))) (g.o i) TO (OC.arr ⟨at_ (g.n i), (S.op i).height, (S.op i).level, plc p g (S.op i).pos, lnk g (S.nx i), updV ah (S.op i).level (.pointer (some (plc p g (S.op i).pos))), nextV (g.o i) (S.op i).ph⟩)) := HX
    have HC : Hid (Chg (Is (g.o i)) w w1) := h2
    clear HX h1 h2 HP
    by_cases hl : (S.op i).level = 0
    · have HL : Hid ((S.op i).level = 0) := hl
      have hz : (((S.op i).level : Int) == 0) = true := by simp [hl]
      clear hl
      have hne1 : ¬ 13 = 5 + (S.op i).level := by omega
      have hne2 : ¬ 5 + (S.op i).level = 13 := by omega
      go_wp2
      go_region
      go_wp2
      go_returns
      have hs := HS.out.1
      have hc : Chg (Is (g.o i)) w (((w1.setCell ⟨g.o i, 5 + (S.op i).level, none⟩ (.pointer (some (plc p g (S.op i).pos)))).setCell ⟨g.o i, 13, none⟩ (nextV (g.o i) 1)).drew) := ((HC.out.put _ _).put _ _).drew
      refine ⟨rfl, ?_, hs.isFoot hi hc⟩
      unfold PS.step
      rw [if_pos h0, if_neg (by rw [HG.out]; decide), if_pos HL.out]
      refine hs.setOp hi hc (hs.inv.lowest hi h0 HL.out HG.out) rfl (OpIs.mk (by simp [PS.low]) (updV ah (S.op i).level (.pointer (some (plc p g (S.op i).pos)))) (fun l h1 h2 => ?_) ((Box.set HH.out 13 (nextV (g.o i) 1)).eq (OC.set_next _ _)))
      simp only [PS.low] at h1 ⊢
      rw [updV, if_neg (by omega), upd, if_neg (by omega)]
      exact HS.out.2 l h1 h2
    · have HL : Hid ((S.op i).level ≠ 0) := hl
      go_wp2
      go_region
      go_wp2
      go_returns
      have hs := HS.out.1
      have hlv : ((S.op i).level : Int) - 1 = (((S.op i).level - 1 : Nat) : Int) := by omega
      rw [hlv]
      have hc : Chg (Is (g.o i)) w (((w1.setCell ⟨g.o i, 5 + (S.op i).level, none⟩ (.pointer (some (plc p g (S.op i).pos)))).setCell ⟨g.o i, 2, none⟩ (.int .i64 (((S.op i).level - 1 : Nat) : Int))).drew) := ((HC.out.put _ _).put _ _).drew
      refine ⟨rfl, ?_, hs.isFoot hi hc⟩
      unfold PS.step
      rw [if_pos h0, if_neg (by rw [HG.out]; decide), if_neg HL.out]
      refine hs.setOp hi hc (hs.inv.down hi h0) rfl (OpIs.mk h3 (updV ah (S.op i).level (.pointer (some (plc p g (S.op i).pos)))) (fun l h1 h2 => ?_) ((HH.out.set 2 _).eq (OC.set_lv _ _)))
      simp only [PS.down] at h1 ⊢
      unfold updV upd
      by_cases e : l = (S.op i).level
      · rw [if_pos e, if_pos e]
      · rw [if_neg e, if_neg e]
        exact HS.out.2 l (by omega) h2
set_option maxRecDepth 100000 in
set_option maxHeartbeats 1000000 in
theorem look_at (h : SkAt w p S g) (hi : i < S.ops.length) (h0 : (S.op i).ph = 2) : Calls Tryd.prog 91 #[at_ (g.o i)] w fun e w' => e = .returned (.tuple #[]) ∧ SkAt w' p (S.step i) g ∧ Chg (Foot p g) w w' := by
  have h3 : (S.op i).ph ≠ 3 := by omega
  obtain ⟨ah, hah, hb⟩ := h.opOpen hi h3
  have HP := pass_at h hi h3 hb
  have HS : Hid (SkAt w p S g ∧ (∀ l, (S.op i).level < l → l < 8 → ah l = .pointer (some (plc p g ((S.op i).ahead l))))) := ⟨h, hah⟩
  clear h hah hb
  have hmf := mk_func
  cases hg : S.goes i with
  | true =>
    rw [hg] at HP
    have HG : Hid (S.goes i = true) := hg
    clear hg
    go_enter Tryd.func91, Tryd.ntmps91
    go_wp2_with fail
    refine HP.mono ?_
    rintro _ w1 ⟨rfl, h1, h2⟩
    go_wp2
    go_returns
    have hs := HS.out.1
    refine ⟨rfl, ?_, hs.isFoot hi h2⟩
    unfold PS.step
    rw [if_neg (by omega), if_neg (by omega), if_pos h0, if_pos HG.out]
    exact hs.setOp hi h2 (hs.inv.went hi (.inr h0) HG.out) rfl (OpIs.mk h3 ah HS.out.2 h1)
  | false =>
    rw [hg] at HP
    have HG : Hid (S.goes i = false) := hg
    clear hg
    go_enter Tryd.func91, Tryd.ntmps91
    go_wp2_with fail
    refine HP.mono ?_
    rintro _ w1 ⟨rfl, h1, h2⟩
    rw [if_neg (by decide)] at h1
    have f13 := h1.soft 13
    have c13 := h1.cell 13
    simp [OC.arr] at c13
    have HH : Hid _ := h1
    have HC : Hid (Chg (Is (g.o i)) w w1) := h2
    clear h1 h2 HP
    go_wp2
    go_returns
    have hs := HS.out.1
    have hc : Chg (Is (g.o i)) w (w1.setCell ⟨g.o i, 13, none⟩ (nextV (g.o i) 1)) := HC.out.put _ _
    refine ⟨rfl, ?_, hs.isFoot hi hc⟩
    unfold PS.step
    rw [if_neg (by omega), if_neg (by omega), if_pos h0, if_neg (by rw [HG.out]; decide)]
    exact hs.setOp hi hc (hs.inv.saw hi h0 HG.out) rfl (OpIs.mk (by simp [PS.saw]) ah HS.out.2 ((Box.set HH.out 13 (nextV (g.o i) 1)).eq (OC.set_next _ _)))
end
end Go.Proofs.YtnggajconglfcaaDoor
