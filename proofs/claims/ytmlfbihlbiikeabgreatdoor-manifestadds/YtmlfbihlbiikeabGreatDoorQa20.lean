/- The contract of edit.Decode: what may not be is given up by a panic, which is recovered. -/
import Derived.Test.YtmlfbihlbiikeabGreatDoorQa43
import Derived.Test.YtmlfbihlbiikeabGreatDoorQa19
import Derived.Defers
import Derived.Deep.RegionHeld3
import Derived.Deep.QuietTactic
import Derived.BigQuiet
import Derived.Test.YtmlfbihlbiikeabGreatDoorQa07
namespace Go.Proofs.YtmlfbihlbiikeabGreatDoor
open Go.RowKit
set_option linter.unusedVariables false
set_option linter.unusedSimpArgs false
abbrev TEr : TypeId := 30
set_option maxRecDepth 100000 in
theorem catch_panicking (q1 q2 : Nat) (x : PE) (s : SE) (v2 : Value) (u : TypeId) (pv : Value) (older : List PanicEntry) (w : World) (hne : q1 ≠ q2) (h1 : Box w q1 TE (eA x s)) (h2 : Box w q2 TEr #[v2]) :
    CallsD Tryz.prog 107 #[at_ q1, at_ q2] (.panicking ({ v := .iface u pv, recovered := false } :: older)) w fun e u' w' =>
      e = .returned (.tuple #[]) ∧ u' = .panicking ({ v := .iface u pv, recovered := true } :: older) ∧ w' = (((((w.setCell ⟨q1, 0, none⟩ (.int .u64 0)).setCell ⟨q1, 1, none⟩ (.int .u64 0)).setCell ⟨q1, 2, none⟩ (.int .u64 0)).setCell ⟨q1, 3, none⟩ (.slice none 0 0)).setCell ⟨q1, 4, none⟩ (.slice none 0 0)).setCell ⟨q2, 0, none⟩ (.int .i64 133) := by
  obtain ⟨c0, c1, c2, c3, c4⟩ := h1.five
  have d2 : w.cell? ⟨q2, 0, none⟩ = some v2 := h2.cell 0
  have z0 := h1.soft 0
  have z1 := h1.soft 1
  have z2 := h1.soft 2
  have z3 := h1.soft 3
  have z4 := h1.soft 4
  have y2 := h2.soft 0
  refine callsD_of_wpS Tryz.func107 rfl fun k₀ cs hu => ?_
  apply wpS_seq
  apply wpS_region
  simp [wpOpsS, go_sem, recoverD, hu, Tryz.ntmps107, Exit.thenS]
  refine wpS_cond (t := true) (by simp [Act.eval, Array.replicate]) ?_
  simp only [if_true]
  apply wpS_region
  simp [wpOpsS, go_sem, c0, c1, c2, c3, c4, d2, z0, z1, z2, z3, z4, y2, hne, bodyPostS, results, Tryz.results107]
set_option maxRecDepth 100000 in
theorem catch_idle (q1 q2 : Nat) (w : World) :
    CallsD Tryz.prog 107 #[at_ q1, at_ q2] .returning w fun e u' w' => e = .returned (.tuple #[]) ∧ u' = .returning ∧ w' = w := by
  refine callsD_of_wpS Tryz.func107 rfl fun c₀ cs hu => ?_
  apply wpS_seq
  apply wpS_region
  simp [wpOpsS, go_sem, recoverD, hu, Tryz.ntmps107, Exit.thenS]
  refine wpS_cond (t := false) (by simp [Act.eval, Array.replicate]) ?_
  simp only [Bool.false_eq_true, if_false]
  refine wpS_of_wp (wp_skip ?_)
  cases c₀
  simp_all [bodyPostS, results, Tryz.results107]
theorem readL_all {α : Type} {f : List UInt8 → Option (α × List UInt8)} : ∀ {n : Nat} {b r : List UInt8} {l : List α}, readL f n b = some (l, r) → ∀ x ∈ l, ∃ b' r', f b' = some (x, r')
  | 0, b, r, l, h => by
    simp only [readL, Option.some.injEq, Prod.mk.injEq] at h
    intro x hx
    rw [← h.1] at hx
    cases hx
  | n + 1, b, r, l, h => by
    rw [readL] at h
    simp only [Option.bind_eq_some_iff, Option.map_eq_some_iff, Prod.exists, Prod.mk.injEq] at h
    obtain ⟨y, b1, h1, l1, r1, h2, rfl, rfl⟩ := h
    intro x hx
    rcases List.mem_cons.1 hx with rfl | hx
    · exact ⟨b, b1, h1⟩
    · exact readL_all h2 x hx
theorem takeF_wf {b r : List UInt8} {f : PF} (h : takeF b = some (f, r)) : WfF f := by
  unfold takeF at h
  simp only [Option.bind_eq_some_iff, Option.some.injEq, Prod.mk.injEq, Prod.exists] at h
  obtain ⟨g, b1, h1, n, b2, h2, k, b3, h3, k', b4, h4, rfl, rfl⟩ := h
  have e3 := err_le (keyR_len h3).2
  have e4 := err_le (keyR_len h4).2
  exact ⟨by show k.user.size ≤ _; omega, by show k'.user.size ≤ _; omega⟩
theorem takeE_wf {b : List UInt8} {x : PE} (h : takeE b = some x) : WfE x := by
  unfold takeE at h
  simp only [Option.bind_eq_some_iff, Option.some.injEq, Prod.exists] at h
  obtain ⟨_, _, _, _, _, _, _, _, _, _, _, _, d, _, _, m, _, _, ad, _, h7, rfl⟩ := h
  intro f hf
  obtain ⟨b', r', hb⟩ := readL_all h7 f hf
  exact takeF_wf hb
structure DS (w W : World) (x : PE) (s : SE) : Prop where
  base : Below w.heap.size w W
  var : Box W w.heap.size TE (eA x s)
  er : Box W (w.heap.size + 1) TEr #[.int .i64 0]
  gs : OwnG W (w.heap.size + 2) s.a x.dels.length s.c x.dels
  fs : OwnF W (w.heap.size + 2) s.a' x.adds.length s.c' x.adds
theorem DS.call {w W W' : World} {x : PE} {s : SE} (h : DS w W x s) (hb : Below W.heap.size W W') : DS w W' x s := ⟨h.base.trans (hb.mono h.base.size), h.var.kept (hb.block _ h.var.lt), h.er.kept (hb.block _ h.er.lt), h.gs.below hb, h.fs.below hb⟩
theorem DS.ed {w W : World} {x : PE} {s : SE} (h : DS w W x s) : EdAt W x s := ⟨h.gs.gs, h.fs.fs⟩
def set5 (W : World) (q : Nat) (x : PE) (s : SE) : World := ((((W.setCell ⟨q, 0, none⟩ (.int .u64 (x.log : Int))).setCell ⟨q, 1, none⟩ (.int .u64 (x.next : Int))).setCell ⟨q, 2, none⟩ (.int .u64 (x.last : Int))).setCell ⟨q, 3, none⟩ (.slice s.a x.dels.length s.c)).setCell ⟨q, 4, none⟩ (.slice s.a' x.adds.length s.c')
theorem set5_box {W : World} {q : Nat} {x : PE} {s : SE} {x0 : PE} {s0 : SE} (h : Box W q TE (eA x0 s0)) : Box (set5 W q x s) q TE (eA x s) := by
  have := ((((h.set 0 (.int .u64 (x.log : Int))).set 1 (.int .u64 (x.next : Int))).set 2 (.int .u64 (x.last : Int))).set 3 (.slice s.a x.dels.length s.c)).set 4 (.slice s.a' x.adds.length s.c')
  refine this.eq ?_
  simp [eA]
theorem set5_heap {W : World} {q k : Nat} {x : PE} {s : SE} (h : k ≠ q) : (set5 W q x s).heap[k]? = W.heap[k]? := by
  unfold set5
  rw [Below.heap_setCell _ _ _ _ h, Below.heap_setCell _ _ _ _ h, Below.heap_setCell _ _ _ _ h, Below.heap_setCell _ _ _ _ h, Below.heap_setCell _ _ _ _ h]
theorem set5_below {w W : World} {B q : Nat} {x : PE} {s : SE} (h : Below B w W) (hq : B ≤ q) : Below B w (set5 W q x s) := ((((h.setCell hq _).setCell hq _).setCell hq _).setCell hq _).setCell hq _
theorem decE_no {b : List UInt8} (h : takeE b = none) : decE b = none := by unfold decE; rw [h]; rfl
theorem decE_no2 {b : List UInt8} {x : PE} (h : takeE b = some x) (h2 : ¬ (x.err = 0 ∧ x.enc = b)) : decE b = none := by unfold decE; rw [h, Option.bind_some, if_neg h2]
theorem decE_yes {b : List UInt8} {x : PE} (h : takeE b = some x) (h2 : x.err = 0 ∧ x.enc = b) : decE b = some x := by unfold decE; rw [h, Option.bind_some, if_pos h2]
set_option maxRecDepth 100000 in
set_option maxHeartbeats 4000000 in
theorem edec_any (a : Option Addr) (n c : Nat) (b : List UInt8) (w : World) (h : BsAt w a n c b) (hl : n ≤ 200000000000000) :
    Calls Tryz.prog 78 #[.slice a n c] w fun r w' => Below w.heap.size w w' ∧ ((decE b = none ∧ r = .returned (.tuple #[.agg #[.int .u64 0, .int .u64 0, .int .u64 0, .slice none 0 0, .slice none 0 0], .int .i64 133])) ∨ ∃ (x : PE) (s : SE), decE b = some x ∧ r = .returned (.tuple #[.agg #[.int .u64 (x.log : Int), .int .u64 (x.next : Int), .int .u64 (x.last : Int), .slice s.a x.dels.length s.c, .slice s.a' x.adds.length s.c'], .int .i64 0]) ∧ OwnG w' w.heap.size s.a x.dels.length s.c x.dels ∧ OwnF w' w.heap.size s.a' x.adds.length s.c' x.adds) := by
  have hmf : ∀ (fn : Fn) (first cap : Array Value) (w : World), (Instr.makeFunc fn first cap).run Tryz.prog w = .ok (.func fn first cap) w := fun _ _ _ _ => rfl
  have HB : Hid (BsAt w a n c b) := h
  obtain ⟨W1, e1, HW⟩ : ∃ W1, W1 = (w.alloc (.cells (eA ez sz0) TE)).alloc (.cells #[.int .i64 0] TEr) ∧ Hid (Below w.heap.size w W1 ∧ Box W1 w.heap.size TE (eA ez sz0) ∧ Box W1 (w.heap.size + 1) TEr #[.int .i64 0] ∧ W1.heap.size = w.heap.size + 2) :=
    ⟨_, rfl, ((Below.refl _ _).alloc (Nat.le_refl _) _).alloc (by simp) _, (Box.new _ _ _).alloc _, by have := Box.new (w.alloc (.cells (eA ez sz0) TE)) TEr #[.int .i64 0]; simpa using this, by simp⟩
  have hta : ∀ W, W = (w.alloc (.cells (eA ez sz0) TE)).alloc (.cells #[.int .i64 0] TEr) → Calls Tryz.prog 108 #[.slice a n c] W fun r w' => Below W1.heap.size W1 w' ∧ ((takeE b = none ∧ r = gaveUp) ∨ ∃ (x : PE) (s : SE), takeE b = some x ∧ r = .returned (.agg #[.int .u64 (x.log : Int), .int .u64 (x.next : Int), .int .u64 (x.last : Int), .slice s.a x.dels.length s.c, .slice s.a' x.adds.length s.c']) ∧ OwnG w' W1.heap.size s.a x.dels.length s.c x.dels ∧ OwnF w' W1.heap.size s.a' x.adds.length s.c' x.adds) := by
    rintro W rfl
    rw [← e1]
    exact taken_any a n c b W1 (h.below (Nat.le_refl _) HW.out.1) hl
  clear h e1
  go_enter_defers Tryz.func78, Tryz.ntmps78
  go_wp2_with fail
  refine (hta _ rfl).mono ?_
  rintro _ w2 ⟨hb2, ⟨hno, rfl⟩ | ⟨x, s, hx, rfl, hog, hof⟩⟩
  · have H2 : Hid (Below w.heap.size w w2 ∧ Box w2 w.heap.size TE (eA ez sz0) ∧ Box w2 (w.heap.size + 1) TEr #[.int .i64 0]) := ⟨HW.out.1.trans (hb2.mono HW.out.1.size), HW.out.2.1.kept (hb2.block _ HW.out.2.1.lt), HW.out.2.2.1.kept (hb2.block _ HW.out.2.2.1.lt)⟩
    refine leaves_cons (f := 107) (args := #[at_ w.heap.size, at_ (w.heap.size + 1)]) (by simp) (by simp [go_sem]) ?_
    refine (catch_panicking w.heap.size (w.heap.size + 1) _ _ _ _ _ [] _ (by omega) H2.out.2.1 H2.out.2.2).mono ?_
    rintro e u' w3 ⟨rfl, rfl, rfl⟩
    obtain ⟨c0, c1, c2, c3, c4⟩ := H2.out.2.1.five
    have d0 : w2.cell? ⟨w.heap.size + 1, 0, none⟩ = some (.int .i64 0) := H2.out.2.2.cell 0
    simp [Leaves, settle, results, Tryz.results78, go_sem, c0, c1, c2, c3, c4, d0]
    exact ⟨((((((H2.out.1.setCell (by simp) _).setCell (by simp) _).setCell (by simp) _).setCell (by simp) _).setCell (by simp) _).setCell (by simp) _), decE_no hno⟩
  · have HX : Hid (takeE b = some x ∧ WfE x) := ⟨hx, takeE_wf hx⟩
    have hv2 := HW.out.2.1.kept (hb2.block _ HW.out.2.1.lt)
    have H2 : Hid (DS w (set5 w2 w.heap.size x s) x s) := by
      rw [HW.out.2.2.2] at hog hof
      refine ⟨set5_below (HW.out.1.trans (hb2.mono HW.out.1.size)) (Nat.le_refl _), set5_box hv2, (HW.out.2.2.1.kept (hb2.block _ HW.out.2.2.1.lt)).kept (set5_heap (by omega)), hog.kept fun k e => set5_heap (by have := hog.ge e; omega), hof.kept fun k e => set5_heap (by have := hof.ge e; omega)⟩
    obtain ⟨c0, c1, c2, c3, c4⟩ := hv2.five
    have z0 := hv2.soft 0
    have z1 := hv2.soft 1
    have z2 := hv2.soft 2
    have z3 := hv2.soft 3
    have z4 := hv2.soft 4
    clear hta hb2 hx hog hof hv2
    go_wp2_with fail
    refine (eenc_any x s (set5 w2 w.heap.size x s) H2.out.ed HX.out.2).mono ?_
    rintro _ w3 ⟨a3, k3, rfl, ho3, hb3⟩
    have H3 : Hid (DS w w3 x s) := H2.out.call hb3
    have hbl := HB.out.below (Nat.le_refl _) H3.out.base
    have heq := equal_any a3 a x.lay.length k3 n c x.lay b w3 ho3.bs hbl
    have HLY : Hid (x.err = 0 → x.lay = x.enc) := PE.lay_yes
    clear ho3 hb3 hbl c0 c1 c2 c3 c4 z0 z1 z2 z3 z4 H2
    generalize x.lay.length = L at heq ⊢
    by_cases her : x.err = 0
    · rw [her]
      by_cases hb : x.lay = b
      · have HY : Hid (decE b = some x) := decE_yes HX.out.1 ⟨her, by rw [← HLY.out her]; exact hb⟩
        rw [show (x.lay == b) = true by simp [hb]] at heq
        clear her hb
        go_wp2_with fail
        refine heq.mono ?_
        rintro _ w4 ⟨rfl, hw⟩
        obtain rfl : w3 = w4 := hw.symm
        go_wp2_with fail
        refine (must_yes _).mono ?_
        rintro _ _ ⟨rfl, rfl⟩
        obtain ⟨c0, c1, c2, c3, c4⟩ := H3.out.var.five
        have d0 : w3.cell? ⟨w.heap.size + 1, 0, none⟩ = some (.int .i64 0) := H3.out.er.cell 0
        have z0 := H3.out.var.soft 0
        have z1 := H3.out.var.soft 1
        have z2 := H3.out.var.soft 2
        have z3 := H3.out.var.soft 3
        have z4 := H3.out.var.soft 4
        have y0 := H3.out.er.soft 0
        clear hw heq
        go_wp2
        have H6 : Hid (DS w ((set5 w3 w.heap.size x s).setCell ⟨w.heap.size + 1, 0, none⟩ (.int .i64 0)) x s) := by
          refine ⟨(set5_below H3.out.base (Nat.le_refl _)).setCell (by simp) _, (set5_box H3.out.var).other (by omega) _ _, (((H3.out.er.kept (set5_heap (by omega))).set 0 _).eq (by simp)), H3.out.gs.kept fun k e => ?_, H3.out.fs.kept fun k e => ?_⟩
          · have := H3.out.gs.ge e
            rw [Below.heap_setCell _ _ _ _ (by show k ≠ w.heap.size + 1; omega), set5_heap (by omega)]
          · have := H3.out.fs.ge e
            rw [Below.heap_setCell _ _ _ _ (by show k ≠ w.heap.size + 1; omega), set5_heap (by omega)]
        unfold set5 at H6
        generalize (((((w3.setCell ⟨w.heap.size, 0, none⟩ (.int .u64 (x.log : Int))).setCell ⟨w.heap.size, 1, none⟩ (.int .u64 (x.next : Int))).setCell ⟨w.heap.size, 2, none⟩ (.int .u64 (x.last : Int))).setCell ⟨w.heap.size, 3, none⟩ (.slice s.a x.dels.length s.c)).setCell ⟨w.heap.size, 4, none⟩ (.slice s.a' x.adds.length s.c')).setCell ⟨w.heap.size + 1, 0, none⟩ (.int .i64 0) = w6 at H6 ⊢
        refine leaves_cons (f := 107) (args := #[at_ w.heap.size, at_ (w.heap.size + 1)]) (by simp) (by simp [go_sem]) ?_
        refine (catch_idle w.heap.size (w.heap.size + 1) _).mono ?_
        rintro e u' w7 ⟨rfl, rfl, hw⟩
        obtain rfl : w6 = w7 := hw.symm
        obtain ⟨t0, t1, t2, t3, t4⟩ := H6.out.var.five
        have t5 : w6.cell? ⟨w.heap.size + 1, 0, none⟩ = some (.int .i64 0) := H6.out.er.cell 0
        clear c0 c1 c2 c3 c4 d0 z0 z1 z2 z3 z4 y0
        simp [Leaves, settle, results, Tryz.results78, go_sem, t0, t1, t2, t3, t4, t5]
        refine ⟨H6.out.base, ?_⟩
        exact ⟨x, HY.out, s, ⟨rfl, rfl, rfl, ⟨rfl, rfl, rfl⟩, rfl, rfl, rfl⟩, H6.out.gs.less (by omega), H6.out.fs.less (by omega)⟩
      · have HNO : Hid (decE b = none) := decE_no2 HX.out.1 (fun h => hb (by rw [HLY.out her]; exact h.2))
        rw [show (x.lay == b) = false by simp [hb]] at heq
        clear her hb
        go_wp2_with fail
        refine heq.mono ?_
        rintro _ w4 ⟨rfl, hw⟩
        obtain rfl : w3 = w4 := hw.symm
        go_wp2_with fail
        refine (must_no _).mono ?_
        rintro _ w5 ⟨rfl, hw5⟩
        obtain rfl : w3 = w5 := hw5
        refine leaves_cons (f := 107) (args := #[at_ w.heap.size, at_ (w.heap.size + 1)]) (by simp) (by simp [go_sem]) ?_
        refine (catch_panicking w.heap.size (w.heap.size + 1) _ _ _ _ _ [] _ (by omega) H3.out.var H3.out.er).mono ?_
        rintro e u' w9 ⟨rfl, rfl, rfl⟩
        obtain ⟨c0, c1, c2, c3, c4⟩ := H3.out.var.five
        have d0 : w3.cell? ⟨w.heap.size + 1, 0, none⟩ = some (.int .i64 0) := H3.out.er.cell 0
        simp [Leaves, settle, results, Tryz.results78, go_sem, c0, c1, c2, c3, c4, d0]
        exact ⟨((((((H3.out.base.setCell (by simp) _).setCell (by simp) _).setCell (by simp) _).setCell (by simp) _).setCell (by simp) _).setCell (by simp) _), HNO.out⟩
    · have HNO : Hid (decE b = none) := decE_no2 HX.out.1 (fun h => her h.1)
      have hne : (((x.err : Nat) : Int) == 0) = false := by simp; omega
      generalize x.err = er at hne ⊢
      go_wp2_with fail
      refine (must_no _).mono ?_
      rintro _ w5 ⟨rfl, hw5⟩
      obtain rfl : w3 = w5 := hw5
      refine leaves_cons (f := 107) (args := #[at_ w.heap.size, at_ (w.heap.size + 1)]) (by simp) (by simp [go_sem]) ?_
      refine (catch_panicking w.heap.size (w.heap.size + 1) _ _ _ _ _ [] _ (by omega) H3.out.var H3.out.er).mono ?_
      rintro e u' w9 ⟨rfl, rfl, rfl⟩
      obtain ⟨c0, c1, c2, c3, c4⟩ := H3.out.var.five
      have d0 : w3.cell? ⟨w.heap.size + 1, 0, none⟩ = some (.int .i64 0) := H3.out.er.cell 0
      simp [Leaves, settle, results, Tryz.results78, go_sem, c0, c1, c2, c3, c4, d0]
      exact ⟨((((((H3.out.base.setCell (by simp) _).setCell (by simp) _).setCell (by simp) _).setCell (by simp) _).setCell (by simp) _).setCell (by simp) _), HNO.out⟩
end Go.Proofs.YtmlfbihlbiikeabGreatDoor
namespace Go.Proofs.YtmlfbihlbiikeabGreatDoor
open Go
set_option linter.unusedVariables false
set_option linter.unusedSimpArgs false
def waitsB (md : Region.Mode) (l : List Oper) (j : Nat) : List Nat := match l[j]? with
  | none => []
  | some o => (o.after.toList.filter (fun e => Region.binds md e)).map (·.on)
def cloB (md : Region.Mode) (l : List Oper) : Nat → List Nat → List Nat
  | 0, acc => acc
  | k + 1, acc => cloB md l k (if acc.contains k then acc ++ waitsB md l k else acc)
def stagedB (md : Region.Mode) (n : Nat) (l : List Oper) : Bool :=
  (List.range l.length).all fun j => match l[j]? with
    | none => true
    | some o => if j < n then o.guard.isNone && o.after.toList.all (fun e => !Region.binds md e || decide (e.on < j))
      else (waitsB md l j).any (fun x => decide (n ≤ x)) || (List.range n).all (fun i => (cloB md l n (waitsB md l j)).contains i)
theorem staged_fst {md : Region.Mode} {n : Nat} {l : List Oper} (h : stagedB md n l = true) {j : Nat} {o : Oper} (ho : l[j]? = some o) (hj : j < n) : o.guard = none ∧ ∀ e ∈ o.after, Region.binds md e = true → e.on < j := by
  have hlt : j < l.length := (List.getElem?_eq_some_iff.1 ho).1
  have := List.all_eq_true.1 h j (List.mem_range.2 hlt)
  simp only [ho, if_pos hj, Bool.and_eq_true, Option.isNone_iff_eq_none] at this
  refine ⟨this.1, fun e he hb => ?_⟩
  have h2 := List.all_eq_true.1 this.2 e (by simpa using he)
  simp only [hb, Bool.not_true, Bool.false_or, decide_eq_true_eq] at h2
  exact h2
theorem staged_snd {md : Region.Mode} {n : Nat} {l : List Oper} (h : stagedB md n l = true) {j : Nat} {o : Oper} (ho : l[j]? = some o) (hj : n ≤ j) : (∃ x ∈ waitsB md l j, n ≤ x) ∨ ∀ i, i < n → i ∈ cloB md l n (waitsB md l j) := by
  have hlt : j < l.length := (List.getElem?_eq_some_iff.1 ho).1
  have := List.all_eq_true.1 h j (List.mem_range.2 hlt)
  simp only [ho, if_neg (Nat.not_lt.2 hj), Bool.or_eq_true] at this
  rcases this with h1 | h1
  · obtain ⟨x, hx, hn⟩ := List.any_eq_true.1 h1
    exact .inl ⟨x, hx, of_decide_eq_true hn⟩
  · exact .inr fun i hi => by simpa using List.all_eq_true.1 h1 i (List.mem_range.2 hi)
theorem clo_in {md : Region.Mode} {l : List Oper} {T : Nat → Prop} (hT : ∀ k, T k → ∀ x ∈ waitsB md l k, T x) : ∀ (k : Nat) (acc : List Nat), (∀ x ∈ acc, T x) → ∀ x ∈ cloB md l k acc, T x
  | 0, acc, h => h
  | k + 1, acc, h => by
    unfold cloB
    refine clo_in hT k _ (fun x hx => ?_)
    split at hx
    · rename_i hc
      rcases List.mem_append.1 hx with hx | hx
      · exact h x hx
      · exact hT k (h k (by simpa using hc)) x hx
    · exact h x hx
theorem mem_waits {md : Region.Mode} {l : List Oper} {j x : Nat} {o : Oper} (ho : l[j]? = some o) (hx : x ∈ waitsB md l j) : ∃ e ∈ o.after, Region.binds md e = true ∧ e.on = x := by
  unfold waitsB at hx
  rw [ho] at hx
  obtain ⟨e, he, hex⟩ := List.mem_map.1 hx
  obtain ⟨h1, h2⟩ := List.mem_filter.1 he
  exact ⟨e, by simpa using h1, h2, hex⟩
section
variable {P : Program} {Q : Exit → Act → World → Prop} {md : Region.Mode} {C : World → Prop}
theorem wpAny_more {ops : Array Oper} : ∀ (k : Nat) (listed : Array Bool) (a : Act) (w : World), wpAny P md ops Q k listed a w → wpAny P md ops Q (k + 1) listed a w
  | 0, listed, a, w, h => ⟨fun _ => h.2, fun i hi => by rw [h.1] at hi; cases hi⟩
  | k + 1, listed, a, w, h => ⟨h.1, fun i hi => wpOp_mono (fun a' w' h' => wpAny_more k _ a' w' h') (h.2 i hi)⟩
def padB (l : Array Bool) (m : Nat) : Array Bool := l ++ Array.replicate m false
theorem padB_lt {l : Array Bool} {m i : Nat} (h : i < l.size) (d : Bool) : (padB l m).getD i d = l.getD i d := by
  unfold padB
  simp [Array.getD, h]
  omega
theorem padB_set {l : Array Bool} {m i : Nat} (h : i < l.size) : (padB l m).setIfInBounds i true = padB (l.setIfInBounds i true) m := by
  unfold padB
  rw [Array.setIfInBounds_append_left h]
theorem getD_any {l : Array Bool} {i : Nat} (h : i < l.size) (d d' : Bool) : l.getD i d = l.getD i d' := by simp [Array.getD, h]
def downB (md : Region.Mode) (l : List Oper) (listed : Array Bool) : Prop := ∀ i o, l[i]? = some o → listed.getD i false = true → ∀ e ∈ o.after, Region.binds md e = true → listed.getD e.on false = true
theorem staged_go {l : List Oper} {n m : Nat} (hl : l.length = n + m) (hB : stagedB md n l = true) {Qp : Act → Prop} {k : Nat}
    (hend : ∀ a w, C w → Qp a → wpAny P md l.toArray Q k (padB (Array.replicate n true) m) a w) :
    ∀ (fuel : Nat) (listed : Array Bool) (a : Act) (w : World), listed.size = n → downB md l listed → C w → wpAnyQ P md (l.take n).toArray C Qp fuel listed a → wpAny P md l.toArray Q (fuel + k) (padB listed m) a w := by
  have hget : ∀ i, i < n → (l.take n).toArray[i]? = l.toArray[i]? := fun i hi => by
    rw [List.getElem?_toArray, List.getElem?_toArray, List.getElem?_take, if_pos hi]
  have hall : ∀ listed : Array Bool, listed.size = n → Region.ready md (l.take n).toArray listed = [] → listed = Array.replicate n true := fun listed hs hr => by
    have key : ∀ i, i < n → listed.getD i true = true := fun i => by
      induction i using Nat.strongRecOn with
      | _ i ih =>
        intro hi
        cases e : listed.getD i true with
        | true => rfl
        | false =>
          have ho : l[i]? = some (l[i]'(by omega)) := List.getElem?_eq_getElem (by omega)
          have : i ∈ Region.ready md (l.take n).toArray listed := by
            refine mem_ready.2 ⟨e, l[i]'(by omega), by rw [hget i hi, List.getElem?_toArray, ho], fun e he hb => ?_⟩
            have hlt := (staged_fst hB ho hi).2 e he hb
            rw [getD_any (by omega) false true]
            exact ih e.on hlt (by omega)
          rw [hr] at this
          cases this
    refine Array.ext (by simp [hs]) (fun i h1 h2 => ?_)
    have := key i (by omega)
    simp only [Array.getD, h1, dif_pos] at this
    simpa using this
  have hdone : ∀ (fuel : Nat) (a : Act) (w : World), C w → Qp a → wpAny P md l.toArray Q (fuel + k) (padB (Array.replicate n true) m) a w := fun fuel => by
    induction fuel with
    | zero =>
      intro a w hw hq
      rw [Nat.zero_add]
      exact hend a w hw hq
    | succ f ih =>
      intro a w hw hq
      rw [show f + 1 + k = (f + k) + 1 by omega]
      exact wpAny_more _ _ _ _ (ih a w hw hq)
  intro fuel
  induction fuel with
  | zero =>
    intro listed a w hs hdn hw h
    rw [hall listed hs h.1]
    exact hdone 0 a w hw h.2
  | succ f ih =>
    intro listed a w hs hdn hw h
    by_cases hr : Region.ready md (l.take n).toArray listed = []
    · rw [hall listed hs hr]
      exact hdone (f + 1) a w hw (h.1 hr)
    · have hex : ∃ i, i < n ∧ listed.getD i true = false := by
        obtain ⟨i, hi⟩ := List.exists_mem_of_ne_nil _ hr
        obtain ⟨h1, o, ho, _⟩ := mem_ready.1 hi
        refine ⟨i, ?_, h1⟩
        have := (Array.getElem?_eq_some_iff.1 ho).1
        simp at this
        omega
      have hsub : ∀ i, i ∈ Region.ready md l.toArray (padB listed m) → i < n ∧ i ∈ Region.ready md (l.take n).toArray listed := fun i hi => by
        obtain ⟨h1, o, ho, h2⟩ := mem_ready.1 hi
        rw [List.getElem?_toArray] at ho
        have hin : i < n := by
          by_cases hin : i < n
          · exact hin
          · obtain ⟨x, hx, hxf⟩ := hex
            have hbig : ∀ y, (padB listed m).getD y false = true → y < n := fun y hy => by
              by_cases hyn : y < n
              · exact hyn
              · exfalso
                unfold padB at hy
                simp only [Array.getD] at hy
                split at hy
                · rename_i h3
                  rw [Array.getInternal_eq_getElem, Array.getElem_append_right (by omega)] at hy
                  simp at hy
                · cases hy
            have hw0 : ∀ y ∈ waitsB md l i, (padB listed m).getD y false = true := fun y hy => by
              obtain ⟨e, he, hb, rfl⟩ := mem_waits ho hy
              exact h2 e he hb
            have hclo : ∀ i', i' < n → i' ∈ cloB md l n (waitsB md l i) := by
              rcases staged_snd hB ho (by omega) with ⟨y, hy, hny⟩ | h4
              · exact absurd (hbig y (hw0 y hy)) (by omega)
              · exact h4
            have hT : ∀ y ∈ cloB md l n (waitsB md l i), (padB listed m).getD y false = true := by
              refine clo_in (T := fun y => (padB listed m).getD y false = true) (fun y hy z hz => ?_) n _ (fun y hy => ?_)
              · have hyn : y < n := hbig y hy
                cases hy2 : l[y]? with
                | none =>
                  unfold waitsB at hz
                  rw [hy2] at hz
                  cases hz
                | some oy =>
                  obtain ⟨e, he, hb, rfl⟩ := mem_waits hy2 hz
                  rw [padB_lt (by omega)] at hy
                  have hlt := (staged_fst hB hy2 hyn).2 e he hb
                  rw [padB_lt (by omega)]
                  exact hdn y oy hy2 hy e he hb
              · exact hw0 y hy
            have := hT x (hclo x hx)
            rw [padB_lt (by omega), getD_any (by omega) false true, hxf] at this
            cases this
        refine ⟨hin, mem_ready.2 ⟨by rw [← padB_lt (m := m) (by omega)]; exact h1, o, by rw [hget i hin, List.getElem?_toArray]; exact ho, fun e he hb => ?_⟩⟩
        have h3 := h2 e he hb
        have hlt := (staged_fst hB ho hin).2 e he hb
        rw [padB_lt (by omega)] at h3
        exact h3
      rw [show f + 1 + k = (f + k) + 1 by omega]
      refine ⟨fun h0 => ?_, fun i hi => ?_⟩
      · exfalso
        obtain ⟨i, hi⟩ := List.exists_mem_of_ne_nil _ hr
        obtain ⟨h1, o, ho, h2⟩ := mem_ready.1 hi
        have hin : i < n := by
          have := (Array.getElem?_eq_some_iff.1 ho).1
          simp at this
          omega
        rw [hget i hin] at ho
        have : i ∈ Region.ready md l.toArray (padB listed m) := by
          refine mem_ready.2 ⟨by rw [padB_lt (by omega)]; exact h1, o, ho, fun e he hb => ?_⟩
          rw [List.getElem?_toArray] at ho
          have hlt := (staged_fst hB ho hin).2 e he hb
          rw [padB_lt (by omega)]
          exact h2 e he hb
        rw [h0] at this
        cases this
      · obtain ⟨hin, hi'⟩ := hsub i hi
        have hq := h.2 i hi'
        have ho : l[i]? = some (l[i]'(by omega)) := List.getElem?_eq_getElem (by omega)
        have hg := (staged_fst hB ho hin).1
        have hq2 : qOp P l.toArray C i (wpAnyQ P md (l.take n).toArray C Qp f (listed.setIfInBounds i true)) a := by
          unfold qOp at hq ⊢
          rw [hget i hin] at hq
          rw [List.getElem?_toArray, ho] at hq ⊢
          simp only at hq ⊢
          have hw : ∀ y, Region.wanted (l[i]'(by omega)) y = true := fun y => by simp [Region.wanted, hg]
          rw [if_pos (hw _)] at hq ⊢
          exact hq
        refine wpOp_of_qOp hw (fun a' w' hw' hk => ?_) hq2
        rw [padB_set (by omega)]
        refine ih _ a' w' (by simp [hs]) (fun y oy hy1 hy2 e he hb => ?_) hw' hk
        by_cases hyi : i = y
        · subst hyi
          obtain ⟨_, o2, ho2, h2⟩ := mem_ready.1 hi'
          rw [hget i hin, List.getElem?_toArray, hy1] at ho2
          obtain rfl := Option.some.inj ho2
          have h3 := h2 e he hb
          have hlt := (staged_fst hB hy1 hin).2 e he hb
          rw [getD_set_ne false (by omega)]
          exact h3
        · rw [getD_set_ne false hyi] at hy2
          have h3 := hdn y oy hy1 hy2 e he hb
          by_cases hei : i = e.on
          · rw [← hei]
            simp [Array.getD, hs, hin]
          · rw [getD_set_ne false hei]
            exact h3
theorem wp_region_staged {id : Nat} {a : Act} {w : World} {l : List Oper} (n m : Nat) (hl : l.length = n + m) (hm : P.follows .mixedOrders = true) (hx : Region.lexB .any (l.take n).toArray = true) (hB : stagedB .any n l = true) (hC : C w.drew)
    (h : wpQuiet P (l.take n).toArray C (fun a' => ∀ w', C w' → wpAnyH P .any l.toArray Q (fun _ => True) m (padB (Array.replicate n true) m) a' w') (l.take n) a) : (Code.region id l.toArray true).wp P Q a w := by
  refine wp_region_any hm ?_
  simp only [Region.lexB, Bool.and_eq_true] at hx
  have hq := wpAnyQ_lex (C := C) (md := .any) hx.1 (l.take n) 0 (Array.replicate n false) a (by simp) (by simpa [List.length_take, hl, show min n (n + m) = n by omega] using hx.2) h
  rw [List.length_take, hl, show min n (n + m) = n by omega] at hq
  have hgo := staged_go (P := P) (Q := Q) (md := .any) (C := C) hl hB (k := m) (fun a' w' hw' hq' => wpAny_of_held _ _ _ _ (hq' w' hw')) n (Array.replicate n false) a w.drew (by simp) (fun i o _ h => by simp only [Array.getD, Array.size_replicate] at h; split at h <;> simp at h) hC hq
  have e : padB (Array.replicate n false) m = Array.replicate l.toArray.size false := by
    unfold padB
    rw [List.size_toArray, hl, Array.replicate_append_replicate]
  rw [e] at hgo
  rw [List.size_toArray, hl] at hgo ⊢
  exact hgo
end
end Go.Proofs.YtmlfbihlbiikeabGreatDoor
namespace Go.Proofs.YtmlfbihlbiikeabGreatDoor
end Go.Proofs.YtmlfbihlbiikeabGreatDoor
namespace Go.Proofs.YtmlfbihlbiikeabGreatDoor
end Go.Proofs.YtmlfbihlbiikeabGreatDoor
