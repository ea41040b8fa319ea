/- The contract of edit.Decode: what may not be is given up by a panic, which is recovered. -/
import Derived.Test.YtiflepadjcpjjaaE13Taken
import Derived.Test.YtiflepadjcpjjaaQa08
import Derived.Defers
import Derived.Test.YtiflepadjcpjjaaE13Check
namespace Go.Proofs.Ytiflepadjcpjjaa
open Go.RowKit
set_option linter.unusedVariables false
set_option linter.unusedSimpArgs false
abbrev TEr : TypeId := 29
set_option maxRecDepth 100000 in
theorem catch_panicking (q1 q2 : Nat) (x : PE) (s : SE) (v2 : Value) (u : TypeId) (pv : Value) (older : List PanicEntry) (w : World) (hne : q1 ≠ q2) (h1 : Box w q1 TE (eA x s)) (h2 : Box w q2 TEr #[v2]) :
    CallsD Try.prog 26 #[at_ q1, at_ q2] (.panicking ({ v := .iface u pv, recovered := false } :: older)) w fun e u' w' =>
      e = .returned (.tuple #[]) ∧ u' = .panicking ({ v := .iface u pv, recovered := true } :: older) ∧ w' = (((((w.setCell ⟨q1, 0, none⟩ (.int .u64 0)).setCell ⟨q1, 1, none⟩ (.int .u64 0)).setCell ⟨q1, 2, none⟩ (.int .u64 0)).setCell ⟨q1, 3, none⟩ (.slice none 0 0)).setCell ⟨q1, 4, none⟩ (.slice none 0 0)).setCell ⟨q2, 0, none⟩ (.int .i64 133) := by
  obtain ⟨c0, c1, c2, c3, c4⟩ := h1.five
  have d2 : w.cell? ⟨q2, 0, none⟩ = some v2 := h2.cell 0
  have z0 := h1.soft 0
  have z1 := h1.soft 1
  have z2 := h1.soft 2
  have z3 := h1.soft 3
  have z4 := h1.soft 4
  have y2 := h2.soft 0
  refine callsD_of_wpS Try.func26 rfl fun k₀ cs hu => ?_
  apply wpS_seq
  apply wpS_region
  simp [wpOpsS, go_sem, recoverD, hu, Try.ntmps26, Exit.thenS]
  refine wpS_cond (t := true) (by simp [Act.eval, Array.replicate]) ?_
  simp only [if_true]
  apply wpS_region
  simp [wpOpsS, go_sem, c0, c1, c2, c3, c4, d2, z0, z1, z2, z3, z4, y2, hne, bodyPostS, results, Try.results26]
set_option maxRecDepth 100000 in
theorem catch_idle (q1 q2 : Nat) (w : World) :
    CallsD Try.prog 26 #[at_ q1, at_ q2] .returning w fun e u' w' => e = .returned (.tuple #[]) ∧ u' = .returning ∧ w' = w := by
  refine callsD_of_wpS Try.func26 rfl fun c₀ cs hu => ?_
  apply wpS_seq
  apply wpS_region
  simp [wpOpsS, go_sem, recoverD, hu, Try.ntmps26, Exit.thenS]
  refine wpS_cond (t := false) (by simp [Act.eval, Array.replicate]) ?_
  simp only [Bool.false_eq_true, if_false]
  refine wpS_of_wp (wp_skip ?_)
  cases c₀
  simp_all [bodyPostS, results, Try.results26]
theorem readL_all {α : Type} {f : List UInt8 → Option (α × List UInt8)} : ∀ {n : Nat} {b r : List UInt8} {l : List α}, readL f n b = some (l, r) → ∀ x ∈ l, ∃ b' r', f b' = some (x, r')
  | 0, b, r, l, h => by
    simp only [readL, Option.some.injEq, Prod.mk.injEq] at h
    intro x hx
    rw [← h.1] at hx
    cases hx
  | n + 1, b, r, l, h => by
    rw [readL] at h
    simp only [Option.bind_eq_some_iff, Option.map_eq_some_iff, Prod.exists, Prod.mk.injEq] at h
    obtain ⟨y, b1, h1, l1, r1, h2, rfl, rfl⟩ := h
    intro x hx
    rcases List.mem_cons.1 hx with rfl | hx
    · exact ⟨b, b1, h1⟩
    · exact readL_all h2 x hx
theorem takeF_wf {b r : List UInt8} {f : PF} (h : takeF b = some (f, r)) : WfF f := by
  unfold takeF at h
  simp only [Option.bind_eq_some_iff, Option.some.injEq, Prod.mk.injEq, Prod.exists] at h
  obtain ⟨g, b1, h1, n, b2, h2, k, b3, h3, k', b4, h4, rfl, rfl⟩ := h
  have e3 := err_le (keyR_len h3).2
  have e4 := err_le (keyR_len h4).2
  exact ⟨by show k.user.size ≤ _; omega, by show k'.user.size ≤ _; omega⟩
theorem takeE_wf {b : List UInt8} {x : PE} (h : takeE b = some x) : WfE x := by
  unfold takeE at h
  simp only [Option.bind_eq_some_iff, Option.some.injEq, Prod.exists] at h
  obtain ⟨_, _, _, _, _, _, _, _, _, _, _, _, d, _, _, m, _, _, ad, _, h7, rfl⟩ := h
  intro f hf
  obtain ⟨b', r', hb⟩ := readL_all h7 f hf
  exact takeF_wf hb
structure DS (w W : World) (x : PE) (s : SE) : Prop where
  base : Below w.heap.size w W
  var : Box W w.heap.size TE (eA x s)
  er : Box W (w.heap.size + 1) TEr #[.int .i64 0]
  gs : OwnG W (w.heap.size + 2) s.a x.dels.length s.c x.dels
  fs : OwnF W (w.heap.size + 2) s.a' x.adds.length s.c' x.adds
theorem DS.call {w W W' : World} {x : PE} {s : SE} (h : DS w W x s) (hb : Below W.heap.size W W') : DS w W' x s := ⟨h.base.trans (hb.mono h.base.size), h.var.kept (hb.block _ h.var.lt), h.er.kept (hb.block _ h.er.lt), h.gs.below hb, h.fs.below hb⟩
theorem DS.ed {w W : World} {x : PE} {s : SE} (h : DS w W x s) : EdAt W x s := ⟨h.gs.gs, h.fs.fs⟩
def set5 (W : World) (q : Nat) (x : PE) (s : SE) : World := ((((W.setCell ⟨q, 0, none⟩ (.int .u64 (x.log : Int))).setCell ⟨q, 1, none⟩ (.int .u64 (x.next : Int))).setCell ⟨q, 2, none⟩ (.int .u64 (x.last : Int))).setCell ⟨q, 3, none⟩ (.slice s.a x.dels.length s.c)).setCell ⟨q, 4, none⟩ (.slice s.a' x.adds.length s.c')
theorem set5_box {W : World} {q : Nat} {x : PE} {s : SE} {x0 : PE} {s0 : SE} (h : Box W q TE (eA x0 s0)) : Box (set5 W q x s) q TE (eA x s) := by
  have := ((((h.set 0 (.int .u64 (x.log : Int))).set 1 (.int .u64 (x.next : Int))).set 2 (.int .u64 (x.last : Int))).set 3 (.slice s.a x.dels.length s.c)).set 4 (.slice s.a' x.adds.length s.c')
  refine this.eq ?_
  simp [eA]
theorem set5_heap {W : World} {q k : Nat} {x : PE} {s : SE} (h : k ≠ q) : (set5 W q x s).heap[k]? = W.heap[k]? := by
  unfold set5
  rw [Below.heap_setCell _ _ _ _ h, Below.heap_setCell _ _ _ _ h, Below.heap_setCell _ _ _ _ h, Below.heap_setCell _ _ _ _ h, Below.heap_setCell _ _ _ _ h]
theorem set5_below {w W : World} {B q : Nat} {x : PE} {s : SE} (h : Below B w W) (hq : B ≤ q) : Below B w (set5 W q x s) := ((((h.setCell hq _).setCell hq _).setCell hq _).setCell hq _).setCell hq _
def ezV : Value := .agg #[.int .u64 0, .int .u64 0, .int .u64 0, .slice none 0 0, .slice none 0 0]
theorem decE_no {b : List UInt8} (h : takeE b = none) : decE b = none := by unfold decE; rw [h]; rfl
theorem decE_no2 {b : List UInt8} {x : PE} (h : takeE b = some x) (h2 : ¬ (x.err = 0 ∧ x.enc = b)) : decE b = none := by unfold decE; rw [h, Option.bind_some, if_neg h2]
theorem decE_yes {b : List UInt8} {x : PE} (h : takeE b = some x) (h2 : x.err = 0 ∧ x.enc = b) : decE b = some x := by unfold decE; rw [h, Option.bind_some, if_pos h2]
set_option maxRecDepth 100000 in
set_option maxHeartbeats 4000000 in
theorem edec_any (a : Option Addr) (n c : Nat) (b : List UInt8) (w : World) (h : BsAt w a n c b) (hl : n ≤ 200000000000000) :
    Calls Try.prog 14 #[.slice a n c] w fun r w' => Below w.heap.size w w' ∧ ((decE b = none ∧ r = .returned (.tuple #[.agg #[.int .u64 0, .int .u64 0, .int .u64 0, .slice none 0 0, .slice none 0 0], .int .i64 133])) ∨ ∃ (x : PE) (s : SE), decE b = some x ∧ r = .returned (.tuple #[.agg #[.int .u64 (x.log : Int), .int .u64 (x.next : Int), .int .u64 (x.last : Int), .slice s.a x.dels.length s.c, .slice s.a' x.adds.length s.c'], .int .i64 0]) ∧ OwnG w' w.heap.size s.a x.dels.length s.c x.dels ∧ OwnF w' w.heap.size s.a' x.adds.length s.c' x.adds) := by
  have hmf : ∀ (fn : Fn) (first cap : Array Value) (w : World), (Instr.makeFunc fn first cap).run Try.prog w = .ok (.func fn first cap) w := fun _ _ _ _ => rfl
  have HB : Hid (BsAt w a n c b) := h
  obtain ⟨W1, e1, HW⟩ : ∃ W1, W1 = (w.alloc (.cells (eA ez sz0) TE)).alloc (.cells #[.int .i64 0] TEr) ∧ Hid (Below w.heap.size w W1 ∧ Box W1 w.heap.size TE (eA ez sz0) ∧ Box W1 (w.heap.size + 1) TEr #[.int .i64 0] ∧ W1.heap.size = w.heap.size + 2) :=
    ⟨_, rfl, ((Below.refl _ _).alloc (Nat.le_refl _) _).alloc (by simp) _, (Box.new _ _ _).alloc _, by have := Box.new (w.alloc (.cells (eA ez sz0) TE)) TEr #[.int .i64 0]; simpa using this, by simp⟩
  have hta : ∀ W, W = (w.alloc (.cells (eA ez sz0) TE)).alloc (.cells #[.int .i64 0] TEr) → Calls Try.prog 27 #[.slice a n c] W fun r w' => Below W1.heap.size W1 w' ∧ ((takeE b = none ∧ r = gaveUp) ∨ ∃ (x : PE) (s : SE), takeE b = some x ∧ r = .returned (.agg #[.int .u64 (x.log : Int), .int .u64 (x.next : Int), .int .u64 (x.last : Int), .slice s.a x.dels.length s.c, .slice s.a' x.adds.length s.c']) ∧ OwnG w' W1.heap.size s.a x.dels.length s.c x.dels ∧ OwnF w' W1.heap.size s.a' x.adds.length s.c' x.adds) := by
    rintro W rfl
    rw [← e1]
    exact taken_any a n c b W1 (h.below (Nat.le_refl _) HW.out.1) hl
  clear h e1
  go_enter_defers Try.func14, Try.ntmps14
  go_wp2_with fail
  refine (hta _ rfl).mono ?_
  rintro _ w2 ⟨hb2, ⟨hno, rfl⟩ | ⟨x, s, hx, rfl, hog, hof⟩⟩
  · have H2 : Hid (Below w.heap.size w w2 ∧ Box w2 w.heap.size TE (eA ez sz0) ∧ Box w2 (w.heap.size + 1) TEr #[.int .i64 0]) := ⟨HW.out.1.trans (hb2.mono HW.out.1.size), HW.out.2.1.kept (hb2.block _ HW.out.2.1.lt), HW.out.2.2.1.kept (hb2.block _ HW.out.2.2.1.lt)⟩
    refine leaves_cons (f := 26) (args := #[at_ w.heap.size, at_ (w.heap.size + 1)]) (by simp) (by simp [go_sem]) ?_
    refine (catch_panicking w.heap.size (w.heap.size + 1) _ _ _ _ _ [] _ (by omega) H2.out.2.1 H2.out.2.2).mono ?_
    rintro e u' w3 ⟨rfl, rfl, rfl⟩
    obtain ⟨c0, c1, c2, c3, c4⟩ := H2.out.2.1.five
    have d0 : w2.cell? ⟨w.heap.size + 1, 0, none⟩ = some (.int .i64 0) := H2.out.2.2.cell 0
    simp [Leaves, settle, results, Try.results14, go_sem, c0, c1, c2, c3, c4, d0]
    exact ⟨((((((H2.out.1.setCell (by simp) _).setCell (by simp) _).setCell (by simp) _).setCell (by simp) _).setCell (by simp) _).setCell (by simp) _), decE_no hno⟩
  · have HX : Hid (takeE b = some x ∧ WfE x) := ⟨hx, takeE_wf hx⟩
    have hv2 := HW.out.2.1.kept (hb2.block _ HW.out.2.1.lt)
    have H2 : Hid (DS w (set5 w2 w.heap.size x s) x s) := by
      rw [HW.out.2.2.2] at hog hof
      refine ⟨set5_below (HW.out.1.trans (hb2.mono HW.out.1.size)) (Nat.le_refl _), set5_box hv2, (HW.out.2.2.1.kept (hb2.block _ HW.out.2.2.1.lt)).kept (set5_heap (by omega)), hog.kept fun k e => set5_heap (by have := hog.ge e; omega), hof.kept fun k e => set5_heap (by have := hof.ge e; omega)⟩
    obtain ⟨c0, c1, c2, c3, c4⟩ := hv2.five
    have z0 := hv2.soft 0
    have z1 := hv2.soft 1
    have z2 := hv2.soft 2
    have z3 := hv2.soft 3
    have z4 := hv2.soft 4
    clear hta hb2 hx hog hof hv2
    go_wp2_with fail
    refine (eenc_any x s (set5 w2 w.heap.size x s) H2.out.ed HX.out.2).mono ?_
    rintro _ w3 ⟨a3, k3, rfl, ho3, hb3⟩
    have H3 : Hid (DS w w3 x s) := H2.out.call hb3
    have hbl := HB.out.below (Nat.le_refl _) H3.out.base
    have heq := equal_any a3 a x.lay.length k3 n c x.lay b w3 ho3.bs hbl
    have HLY : Hid (x.err = 0 → x.lay = x.enc) := PE.lay_yes
    clear ho3 hb3 hbl c0 c1 c2 c3 c4 z0 z1 z2 z3 z4 H2
    generalize x.lay.length = L at heq ⊢
    by_cases her : x.err = 0
    · rw [her]
      by_cases hb : x.lay = b
      · have HY : Hid (decE b = some x) := decE_yes HX.out.1 ⟨her, by rw [← HLY.out her]; exact hb⟩
        rw [show (x.lay == b) = true by simp [hb]] at heq
        clear her hb
        go_wp2_with fail
        refine heq.mono ?_
        rintro _ w4 ⟨rfl, hw⟩
        obtain rfl : w3 = w4 := hw.symm
        go_wp2_with fail
        refine (must_yes _).mono ?_
        rintro _ _ ⟨rfl, rfl⟩
        obtain ⟨c0, c1, c2, c3, c4⟩ := H3.out.var.five
        have d0 : w3.cell? ⟨w.heap.size + 1, 0, none⟩ = some (.int .i64 0) := H3.out.er.cell 0
        have z0 := H3.out.var.soft 0
        have z1 := H3.out.var.soft 1
        have z2 := H3.out.var.soft 2
        have z3 := H3.out.var.soft 3
        have z4 := H3.out.var.soft 4
        have y0 := H3.out.er.soft 0
        clear hw heq
        go_wp2
        have H6 : Hid (DS w ((set5 w3 w.heap.size x s).setCell ⟨w.heap.size + 1, 0, none⟩ (.int .i64 0)) x s) := by
          refine ⟨(set5_below H3.out.base (Nat.le_refl _)).setCell (by simp) _, (set5_box H3.out.var).other (by omega) _ _, (((H3.out.er.kept (set5_heap (by omega))).set 0 _).eq (by simp)), H3.out.gs.kept fun k e => ?_, H3.out.fs.kept fun k e => ?_⟩
          · have := H3.out.gs.ge e
            rw [Below.heap_setCell _ _ _ _ (by show k ≠ w.heap.size + 1; omega), set5_heap (by omega)]
          · have := H3.out.fs.ge e
            rw [Below.heap_setCell _ _ _ _ (by show k ≠ w.heap.size + 1; omega), set5_heap (by omega)]
        unfold set5 at H6
        generalize (((((w3.setCell ⟨w.heap.size, 0, none⟩ (.int .u64 (x.log : Int))).setCell ⟨w.heap.size, 1, none⟩ (.int .u64 (x.next : Int))).setCell ⟨w.heap.size, 2, none⟩ (.int .u64 (x.last : Int))).setCell ⟨w.heap.size, 3, none⟩ (.slice s.a x.dels.length s.c)).setCell ⟨w.heap.size, 4, none⟩ (.slice s.a' x.adds.length s.c')).setCell ⟨w.heap.size + 1, 0, none⟩ (.int .i64 0) = w6 at H6 ⊢
        refine leaves_cons (f := 26) (args := #[at_ w.heap.size, at_ (w.heap.size + 1)]) (by simp) (by simp [go_sem]) ?_
        refine (catch_idle w.heap.size (w.heap.size + 1) _).mono ?_
        rintro e u' w7 ⟨rfl, rfl, hw⟩
        obtain rfl : w6 = w7 := hw.symm
        obtain ⟨t0, t1, t2, t3, t4⟩ := H6.out.var.five
        have t5 : w6.cell? ⟨w.heap.size + 1, 0, none⟩ = some (.int .i64 0) := H6.out.er.cell 0
        clear c0 c1 c2 c3 c4 d0 z0 z1 z2 z3 z4 y0
        simp [Leaves, settle, results, Try.results14, go_sem, t0, t1, t2, t3, t4, t5]
        refine ⟨H6.out.base, ?_⟩
        exact ⟨x, HY.out, s, ⟨rfl, rfl, rfl, ⟨rfl, rfl, rfl⟩, rfl, rfl, rfl⟩, H6.out.gs.less (by omega), H6.out.fs.less (by omega)⟩
      · have HNO : Hid (decE b = none) := decE_no2 HX.out.1 (fun h => hb (by rw [HLY.out her]; exact h.2))
        rw [show (x.lay == b) = false by simp [hb]] at heq
        clear her hb
        go_wp2_with fail
        refine heq.mono ?_
        rintro _ w4 ⟨rfl, hw⟩
        obtain rfl : w3 = w4 := hw.symm
        go_wp2_with fail
        refine (must_no _).mono ?_
        rintro _ w5 ⟨rfl, hw5⟩
        obtain rfl : w3 = w5 := hw5
        refine leaves_cons (f := 26) (args := #[at_ w.heap.size, at_ (w.heap.size + 1)]) (by simp) (by simp [go_sem]) ?_
        refine (catch_panicking w.heap.size (w.heap.size + 1) _ _ _ _ _ [] _ (by omega) H3.out.var H3.out.er).mono ?_
        rintro e u' w9 ⟨rfl, rfl, rfl⟩
        obtain ⟨c0, c1, c2, c3, c4⟩ := H3.out.var.five
        have d0 : w3.cell? ⟨w.heap.size + 1, 0, none⟩ = some (.int .i64 0) := H3.out.er.cell 0
        simp [Leaves, settle, results, Try.results14, go_sem, c0, c1, c2, c3, c4, d0]
        exact ⟨((((((H3.out.base.setCell (by simp) _).setCell (by simp) _).setCell (by simp) _).setCell (by simp) _).setCell (by simp) _).setCell (by simp) _), HNO.out⟩
    · have HNO : Hid (decE b = none) := decE_no2 HX.out.1 (fun h => her h.1)
      have hne : (((x.err : Nat) : Int) == 0) = false := by simp; omega
      generalize x.err = er at hne ⊢
      go_wp2_with fail
      refine (must_no _).mono ?_
      rintro _ w5 ⟨rfl, hw5⟩
      obtain rfl : w3 = w5 := hw5
      refine leaves_cons (f := 26) (args := #[at_ w.heap.size, at_ (w.heap.size + 1)]) (by simp) (by simp [go_sem]) ?_
      refine (catch_panicking w.heap.size (w.heap.size + 1) _ _ _ _ _ [] _ (by omega) H3.out.var H3.out.er).mono ?_
      rintro e u' w9 ⟨rfl, rfl, rfl⟩
      obtain ⟨c0, c1, c2, c3, c4⟩ := H3.out.var.five
      have d0 : w3.cell? ⟨w.heap.size + 1, 0, none⟩ = some (.int .i64 0) := H3.out.er.cell 0
      simp [Leaves, settle, results, Try.results14, go_sem, c0, c1, c2, c3, c4, d0]
      exact ⟨((((((H3.out.base.setCell (by simp) _).setCell (by simp) _).setCell (by simp) _).setCell (by simp) _).setCell (by simp) _).setCell (by simp) _), HNO.out⟩
end Go.Proofs.Ytiflepadjcpjjaa
/- The contracts of the document's own Same and SameFiles, at edits that are the same. -/
namespace Go.Proofs.Ytiflepadjcpjjaa
open Go.RowKit
set_option linter.unusedVariables false
set_option linter.unusedSimpArgs false
theorem run_neq_gone (l n : Int) (W : World) : (binOp .neq 40 (.agg #[.int .i64 l, .int .u64 n]) (.agg #[.int .i64 l, .int .u64 n])).run Try.prog W = .ok (.bool false) W := by
  simp [go_sem, Try.underlying40, Try.underlying23, Try.underlying3]
set_option maxRecDepth 100000 in
theorem run_neq_file (l n z : Int) (s : ByteArray) (q k : Int) (t : ByteArray) (r j : Int) (W : World) : (binOp .neq 44 (.agg #[.int .i64 l, .int .u64 n, .int .i64 z, .string s, .int .u64 q, .int .i64 k, .string t, .int .u64 r, .int .i64 j]) (.agg #[.int .i64 l, .int .u64 n, .int .i64 z, .string s, .int .u64 q, .int .i64 k, .string t, .int .u64 r, .int .i64 j])).run Try.prog W = .ok (.bool false) W := by
  simp [go_sem, Try.underlying44, Try.underlying42, Try.underlying23, Try.underlying3, Try.underlying9]
set_option maxRecDepth 100000 in
set_option maxHeartbeats 1000000 in
theorem sameFiles_eq {l : List PF} {a a' : Option Addr} {n c c' : Nat} {w : World} (h : FlAt w a n c l) (h' : FlAt w a' n c' l) :
    Calls Try.prog 21 #[.slice a n c, .slice a' n c'] w fun e w' => e = .returned (.bool true) ∧ Below w.heap.size w w' := by
  have HS : Hid (FlAt w a n c l ∧ FlAt w a' n c' l ∧ l.length = n) := ⟨h, h', h.size⟩
  have hm := h.row.max
  have hl := h.row.le
  unfold maxLen at hm
  clear h h'
  go_enter Try.func21, Try.ntmps21
  go_wp2_with fail
  go_loopw [5] (fun i wr => ∃ k : Nat, k ≤ n ∧ i = .int .i64 (k : Int) ∧ Hid (Below w.heap.size w wr)) (fun i _ => n - (intOf i).toNat)
  case atStart => exact ⟨0, Nat.zero_le _, rfl, Below.refl _ _⟩
  case round =>
    obtain ⟨k, hk, rfl, HR⟩ := hrel
    by_cases hkn : k < n
    · have hkl : k < l.length := by rw [HS.out.2.2]; exact hkn
      obtain ⟨b, o, hidx, _, hcs⟩ := HS.out.1.at hkl
      obtain ⟨b', o', hidx', _, hcs'⟩ := HS.out.2.1.at hkl
      obtain ⟨c0, c1, c2, c3, c4, c5, c6, c7, c8⟩ := hcs wr HR.out
      obtain ⟨d0, d1, d2, d3, d4, d5, d6, d7, d8⟩ := hcs' wr HR.out
      clear hcs hcs'
      generalize l[k] = f at c0 c1 c2 c3 c4 c5 c6 c7 c8 d0 d1 d2 d3 d4 d5 d6 d7 d8
      have hne := fun W => run_neq_file f.level f.num f.size f.small.user f.small.seq f.small.kind f.large.user f.large.seq f.large.kind W
      go_wp2_with fail
      go_quiet (fail)
      go_wp2
      go_roundw
      case rel => exact ⟨k + 1, hkn, by go_num, HR.out.trans ⟨rfl, rfl, rfl, Nat.le_refl _, fun _ _ => rfl⟩⟩
      case measure => simp only [intOf]; omega
    · go_wp2
      go_ret
      exact ⟨ret1 rfl, HR.out⟩
set_option maxRecDepth 100000 in
set_option maxHeartbeats 2000000 in
theorem same_eq {x : PE} {s t : SE} {w : World} (h : EdAt w x s) (h' : EdAt w x t) :
    Calls Try.prog 11 #[.agg #[.int .u64 (x.log : Int), .int .u64 (x.next : Int), .int .u64 (x.last : Int), .slice s.a x.dels.length s.c, .slice s.a' x.adds.length s.c'], .agg #[.int .u64 (x.log : Int), .int .u64 (x.next : Int), .int .u64 (x.last : Int), .slice t.a x.dels.length t.c, .slice t.a' x.adds.length t.c']] w fun e w' => e = .returned (.bool true) ∧ Below w.heap.size w w' := by
  have hm := h.gs.row.max
  have hl := h.gs.row.le
  unfold maxLen at hm
  obtain ⟨W1, e1, HW⟩ : ∃ W1, W1 = (w.alloc (.cells (eA x s) TE)).alloc (.cells (eA x t) TE) ∧ Hid (Below w.heap.size w W1 ∧ Box W1 w.heap.size TE (eA x s) ∧ Box W1 (w.heap.size + 1) TE (eA x t)) :=
    ⟨_, rfl, ((Below.refl _ _).alloc (Nat.le_refl _) _).alloc (by simp) _, (Box.new _ _ _).alloc _, by have := Box.new (w.alloc (.cells (eA x s) TE)) TE (eA x t); simpa using this⟩
  have hsf : ∀ W, W = (w.alloc (.cells (eA x s) TE)).alloc (.cells (eA x t) TE) → Calls Try.prog 21 #[.slice s.a' x.adds.length s.c', .slice t.a' x.adds.length t.c'] W fun e w' => e = .returned (.bool true) ∧ Below W1.heap.size W1 w' := by
    rintro W rfl
    rw [← e1]
    exact sameFiles_eq (h.below HW.out.1).fs (h'.below HW.out.1).fs
  have HS : Hid (GsAt w s.a x.dels.length s.c x.dels ∧ GsAt w t.a x.dels.length t.c x.dels) := ⟨h.gs, h'.gs⟩
  clear h h' e1
  go_enter Try.func11, Try.ntmps11
  go_wp2_with fail
  refine (hsf _ rfl).mono ?_
  rintro _ w2 ⟨rfl, hb2⟩
  have H2 : Hid (Below w.heap.size w w2 ∧ Box w2 w.heap.size TE (eA x s) ∧ Box w2 (w.heap.size + 1) TE (eA x t)) := ⟨HW.out.1.trans (hb2.mono HW.out.1.size), HW.out.2.1.kept (hb2.block _ HW.out.2.1.lt), HW.out.2.2.kept (hb2.block _ HW.out.2.2.lt)⟩
  obtain ⟨c0, c1, c2, c3, c4⟩ := H2.out.2.1.five
  obtain ⟨d0, d1, d2, d3, d4⟩ := H2.out.2.2.five
  clear hsf hb2 HW
  go_wp2_with fail
  go_loopw [6] (fun i wr => ∃ k : Nat, k ≤ x.dels.length ∧ i = .int .i64 (k : Int) ∧ Hid (Below w.heap.size w wr ∧ Box wr w.heap.size TE (eA x s) ∧ Box wr (w.heap.size + 1) TE (eA x t))) (fun i _ => x.dels.length - (intOf i).toNat)
  case atStart => exact ⟨0, Nat.zero_le _, rfl, H2.out⟩
  case round =>
    clear c0 c1 c2 c3 c4 d0 d1 d2 d3 d4
    obtain ⟨k, hk, rfl, HR⟩ := hrel
    have c3 : wr.cell? ⟨w.heap.size, 3, none⟩ = some (.slice s.a x.dels.length s.c) := HR.out.2.1.cell 3
    have d3 : wr.cell? ⟨w.heap.size + 1, 3, none⟩ = some (.slice t.a x.dels.length t.c) := HR.out.2.2.cell 3
    by_cases hkn : k < x.dels.length
    · obtain ⟨b, o, hidx, _, hcs⟩ := HS.out.1.at hkn
      obtain ⟨b', o', hidx', _, hcs'⟩ := HS.out.2.at hkn
      obtain ⟨f0, f1⟩ := hcs wr HR.out.1
      obtain ⟨g0, g1⟩ := hcs' wr HR.out.1
      clear hcs hcs'
      generalize x.dels[k] = f at f0 f1 g0 g1
      have hne := fun W => run_neq_gone f.level f.num W
      go_wp2_with fail
      go_quiet (fail)
      go_wp2
      go_roundw
      case rel => exact ⟨k + 1, hkn, by go_num, HR.out.1.trans ⟨rfl, rfl, rfl, Nat.le_refl _, fun _ _ => rfl⟩, HR.out.2.1, HR.out.2.2⟩
      case measure => simp only [intOf]; omega
    · go_wp2
      go_ret
      exact ⟨ret1 rfl, HR.out.1⟩
end Go.Proofs.Ytiflepadjcpjjaa
