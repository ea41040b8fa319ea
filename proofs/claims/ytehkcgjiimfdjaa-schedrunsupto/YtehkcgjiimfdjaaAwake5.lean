/- sched.Run is awake: the runs that the document fixes. -/
import Derived.Test.YtehkcgjiimfdjaaPbSrun
namespace Go.Proofs.Ytehkcgjiimfdjaa
open Go.RowKit
def cnt : List Ins := [⟨1, 0, 0, 0⟩, ⟨5, 0, 1, 0⟩, ⟨2, 0, 0, 0⟩]
def insL : List Ins → List Value
  | [] => []
  | x :: r => .int .i64 x.op :: .int .i64 x.a :: .int .i64 x.b :: .int .i64 x.c :: insL r
theorem insL_at : ∀ (l : List Ins) (j : Nat), j < l.length → (insL l)[j * 4]? = some (.int .i64 (l.getD j ins0).op) ∧ (insL l)[j * 4 + 1]? = some (.int .i64 (l.getD j ins0).a) ∧ (insL l)[j * 4 + 2]? = some (.int .i64 (l.getD j ins0).b) ∧ (insL l)[j * 4 + 3]? = some (.int .i64 (l.getD j ins0).c)
  | [], j, h => by simp at h
  | x :: r, 0, _ => by simp [insL, List.getD]
  | x :: r, j + 1, h => by
    have := insL_at r j (by simpa using h)
    rw [insL, show (j + 1) * 4 = j * 4 + 1 + 1 + 1 + 1 by omega]
    simpa [List.getD, Nat.add_assoc] using this
/-- Instructions in a block. -/
theorem IcAt.box {w : World} {b : Nat} {l : List Ins} {t : TypeId} (h : Box w b t (insL l).toArray) (hm : l.length ≤ maxLen) (hw : ∀ j, j < l.length → in64 (l.getD j ins0).op ∧ in64 (l.getD j ins0).a ∧ in64 (l.getD j ins0).b ∧ in64 (l.getD j ins0).c) : IcAt w (some ⟨b, 0, none⟩) l.length l.length l := by
  refine ⟨rfl, Nat.le_refl _, hm, by simp, hw, fun _ => ⟨b, 0, rfl, fun j hj => ?_⟩⟩
  obtain ⟨h0, h1, h2, h3⟩ := insL_at l j hj
  rw [Nat.zero_add, h.cell, h.cell, h.cell, h.cell]
  simp only [List.getElem?_toArray]
  exact ⟨h0, h1, h2, h3⟩
theorem cnt_wf : ∀ j, j < cnt.length → in64 (cnt.getD j ins0).op ∧ in64 (cnt.getD j ins0).a ∧ in64 (cnt.getD j ins0).b ∧ in64 (cnt.getD j ins0).c := by
  intro j hj
  match j, hj with
  | 0, _ => simp [cnt, in64]
  | 1, _ => simp [cnt, in64]
  | 2, _ => simp [cnt, in64]
set_option maxRecDepth 100000 in
theorem counts_any (w : World) : Calls Try.prog 13 #[] w fun e w' => e = .returned (.slice (some ⟨w.heap.size, 0, none⟩) 3 3) ∧ Below w.heap.size w w' ∧ Box w' w.heap.size 37 (insL cnt).toArray := by
  go_enter Try.func13, Try.ntmps13
  go_wp2
  go_returns
  exact ⟨rfl, (Below.refl _ _).alloc (Nat.le_refl _) _, Box.new w _ _⟩
theorem allOk2 : allOk [cnt, cnt] [] = true := by kernel_rfl
theorem allOk15 : allOk [[⟨15, 0, 0, 0⟩]] [] = false := by kernel_rfl
theorem run_a : ((begins [cnt, cnt] []).run [0, 0, 0, 0, 0, 0]).cells = [2, 0, 0, 0, 0, 0, 0, 0, 0, 0, 0, 0, 0, 0, 0, 0] := by kernel_rfl
theorem run_b : ((begins [cnt, cnt] []).run [0, 1, 0, 1, 0, 1]).cells = [1, 0, 0, 0, 0, 0, 0, 0, 0, 0, 0, 0, 0, 0, 0, 0] ∧ ((begins [cnt, cnt] []).run [0, 1, 0, 1, 0, 1]).steps = 6 := ⟨by kernel_rfl, by kernel_rfl⟩
theorem em_a : ((begins [cnt, cnt] []).run [0, 0, 0, 0, 0, 0]).em.length < 1099511627776 := by
  have h := (run_ok [0, 0, 0, 0, 0, 0] (begins_ok allOk2)).2.2.1
  obtain ⟨e, h1, h2⟩ := h
  rw [h1]
  simp [begins] at h2 ⊢
  omega
theorem em_b : ((begins [cnt, cnt] []).run [0, 1, 0, 1, 0, 1]).em.length < 1099511627776 := by
  have h := (run_ok [0, 1, 0, 1, 0, 1] (begins_ok allOk2)).2.2.1
  obtain ⟨e, h1, h2⟩ := h
  rw [h1]
  simp [begins] at h2 ⊢
  omega
/-- Two tasks' instructions, in a block of slices. -/
theorem CdAt.two {w : World} {b x y cx cy : Nat} {t : TypeId} {l m : List Ins} {ax ay : Option Addr} (h : Box w b t #[.slice ax x cx, .slice ay y cy]) (hx : IcAt w ax x cx l) (hy : IcAt w ay y cy m) : CdAt w (some ⟨b, 0, none⟩) 2 2 [l, m] := by
  refine ⟨rfl, Nat.le_refl _, by unfold maxLen; omega, by simp, fun _ => ⟨b, 0, rfl, fun j hj => ?_⟩⟩
  have e1 := hx.size
  have e2 := hy.size
  subst e1 e2
  match j, hj with
  | 0, _ => exact ⟨ax, cx, by rw [h.cell]; rfl, hx⟩
  | 1, _ => exact ⟨ay, cy, by rw [h.cell]; rfl, hy⟩
theorem CdAt.one {w : World} {b x cx : Nat} {t : TypeId} {l : List Ins} {ax : Option Addr} (h : Box w b t #[.slice ax x cx]) (hx : IcAt w ax x cx l) : CdAt w (some ⟨b, 0, none⟩) 1 1 [l] := by
  refine ⟨rfl, Nat.le_refl _, by unfold maxLen; omega, by simp, fun _ => ⟨b, 0, rfl, fun j hj => ?_⟩⟩
  have e1 := hx.size
  subst e1
  match j, hj with
  | 0, _ => exact ⟨ax, cx, by rw [h.cell]; rfl, hx⟩
theorem IsAt.box {w : World} {b : Nat} {l : List Int} {t : TypeId} (h : Box w b t (l.map (Value.int .i64)).toArray) (hm : l.length ≤ maxLen) (hw : ∀ j, j < l.length → -9223372036854775808 ≤ l.getD j 0 ∧ l.getD j 0 ≤ 9223372036854775807) : IsAt w (some ⟨b, 0, none⟩) l.length l.length l := by
  refine ⟨rfl, Nat.le_refl _, hm, by simp, hw, fun _ => ⟨b, 0, rfl, fun j hj => ?_⟩⟩
  rw [Nat.zero_add, h.cell]
  simp [List.getD, hj]
/-- A run of two counters. -/
theorem run_two {W : World} {b q : Nat} {ps : List Int} {c : Int} {r : List Int} (hcd : CdAt W (some ⟨b, 0, none⟩) 2 2 [cnt, cnt]) (hps : IsAt W (some ⟨q, 0, none⟩) 6 6 ps) (hc : ((begins [cnt, cnt] []).run ps).cells = c :: r) (hem : ((begins [cnt, cnt] []).run ps).em.length < 1099511627776) :
    Calls Try.prog 10 #[.slice (some ⟨b, 0, none⟩) 2 2, .slice none 0 0, .slice (some ⟨q, 0, none⟩) 6 6] W fun e w' => ∃ qc ea ne ec sa nt sc, e = .returned (.tuple #[.agg #[.slice (some ⟨qc, 0, none⟩) 16 16, .slice ea ne ec, .slice sa nt sc, .int .i64 (((begins [cnt, cnt] []).run ps).steps : Int)], .int .i64 0]) ∧ w'.cell? ⟨qc, 0, none⟩ = some (.int .i64 c) ∧ qc < w'.heap.size ∧ Below W.heap.size W w' := by
  refine (srun_at _ 2 2 [cnt, cnt] none 0 0 [] _ 6 6 ps hcd (IsAt.nil W) hps (by rw [hps.size]; omega) (fun _ => hem)).mono ?_
  rintro e w' (⟨h, _⟩ | ⟨_, qc, ea, ec, sa, sc, rfl, hr⟩)
  · rw [allOk2] at h
    cases h
  · refine ⟨qc, ea, _, ec, sa, _, sc, rfl, ?_, hr.cells.lt, hr.base⟩
    rw [hr.cells.cell, hc]
    simp
set_option maxRecDepth 100000 in
set_option maxHeartbeats 1000000 in
theorem awake_any (w : World) : Calls Try.prog 9 #[] w fun e w' => e = .returned (.bool true) ∧ Below w.heap.size w w' := by
  go_enter Try.func9, Try.ntmps9
  go_wp2_with fail
  refine (counts_any _).mono ?_
  rintro _ w1 ⟨rfl, hb1, hx1⟩
  have HB1 : Hid (Below w.heap.size w w1) := hb1
  have HX1 : Hid (Box w1 w.heap.size 37 (insL cnt).toArray) := hx1
  clear hb1 hx1
  go_wp2_with fail
  refine (counts_any _).mono ?_
  rintro _ w2 ⟨rfl, hb2, hx2⟩
  have HB2 : Hid (Below w1.heap.size w1 w2) := hb2
  have HX2 : Hid (Box w2 w1.heap.size 37 (insL cnt).toArray) := hx2
  clear hb2 hx2
  have HI2 : Hid (IcAt w2 (some ⟨w1.heap.size, 0, none⟩) 3 3 cnt) := IcAt.box HX2.out (by unfold maxLen; decide) cnt_wf
  have HI1 : Hid (IcAt w2 (some ⟨w.heap.size, 0, none⟩) 3 3 cnt) := (IcAt.box HX1.out (by unfold maxLen; decide) cnt_wf).below (Nat.le_refl _) HB2.out
  have HCD : Hid (CdAt (w2.alloc (.cells #[.slice (some ⟨w.heap.size, 0, none⟩) 3 3, .slice (some ⟨w1.heap.size, 0, none⟩) 3 3] 38)) (some ⟨w2.heap.size, 0, none⟩) 2 2 [cnt, cnt]) := by
    have hA : Below w2.heap.size w2 (w2.alloc (.cells #[.slice (some ⟨w.heap.size, 0, none⟩) 3 3, .slice (some ⟨w1.heap.size, 0, none⟩) 3 3] 38)) := (Below.refl _ _).alloc (Nat.le_refl _) _
    exact CdAt.two (Box.new w2 _ _) (HI1.out.below (Nat.le_refl _) hA) (HI2.out.below (Nat.le_refl _) hA)
  have HW2 : Hid (Below w.heap.size w w2) := HB1.out.trans (HB2.out.mono HB1.out.size)
  have HS2 : Hid (w.heap.size ≤ w2.heap.size) := HW2.out.size
  go_wp2_with fail
  generalize hW3 : w2.alloc (.cells #[.slice (some ⟨w.heap.size, 0, none⟩) 3 3, .slice (some ⟨w1.heap.size, 0, none⟩) 3 3] 38) = W3 at HCD ⊢
  have e3 : W3.heap.size = w2.heap.size + 1 := by rw [← hW3]; simp
  have HW3 : Hid (Below w.heap.size w W3) := by unfold Hid; rw [← hW3]; exact HW2.out.alloc HS2.out _
  have HE3 : Hid (W3.heap.size = w2.heap.size + 1) := e3
  have HP : Hid (IsAt (W3.alloc (.cells #[.int .i64 0, .int .i64 0, .int .i64 0, .int .i64 0, .int .i64 0, .int .i64 0] 3)) (some ⟨w2.heap.size + 1, 0, none⟩) 6 6 [0, 0, 0, 0, 0, 0]) := by
    unfold Hid
    rw [← e3]
    exact IsAt.box (l := [0, 0, 0, 0, 0, 0]) (Box.new W3 3 _) (by unfold maxLen; decide) (by decide)
  clear hW3 e3
  refine (run_two (HCD.out.below (Nat.le_refl _) ((Below.refl _ _).alloc (Nat.le_refl _) _)) HP.out run_a em_a).mono ?_
  rintro _ w4 ⟨qa, ea, na, ca, sa, ta, da, rfl, ra, rlt, hb4⟩
  have HB4 : Hid (Below W3.heap.size W3 w4) := ((Below.refl _ _).alloc (Nat.le_refl _) _).trans (hb4.mono (by simp))
  have HCD4 : Hid (CdAt w4 (some ⟨w2.heap.size, 0, none⟩) 2 2 [cnt, cnt]) := HCD.out.below (Nat.le_refl _) HB4.out
  have HW4 : Hid (Below w.heap.size w w4) := HW3.out.trans (HB4.out.mono HW3.out.size)
  have HRA : Hid (w4.cell? ⟨qa, 0, none⟩ = some (.int .i64 2)) := ra
  clear hb4 ra
  generalize ((begins [cnt, cnt] []).run [0, 0, 0, 0, 0, 0]).steps = sA
  go_wp2_with fail
  generalize hW5 : w4.alloc (.cells #[.slice (some ⟨qa, 0, none⟩) 16 16, .slice ea na ca, .slice sa ta da, .int .i64 (sA : Int)] 27) = W5
  have e5 : W5.heap.size = w4.heap.size + 1 := by rw [← hW5]; simp
  have HB45 : Hid (Below w4.heap.size w4 W5) := by unfold Hid; rw [← hW5]; exact (Below.refl _ _).alloc (Nat.le_refl _) _
  have HXA : Hid (Box W5 w4.heap.size 27 #[.slice (some ⟨qa, 0, none⟩) 16 16, .slice ea na ca, .slice sa ta da, .int .i64 (sA : Int)]) := by unfold Hid; rw [← hW5]; exact Box.new w4 _ _
  have HP5 : Hid (IsAt (W5.alloc (.cells #[.int .i64 0, .int .i64 1, .int .i64 0, .int .i64 1, .int .i64 0, .int .i64 1] 3)) (some ⟨w4.heap.size + 1, 0, none⟩) 6 6 [0, 1, 0, 1, 0, 1]) := by
    unfold Hid
    rw [← e5]
    exact IsAt.box (l := [0, 1, 0, 1, 0, 1]) (Box.new W5 3 _) (by unfold maxLen; decide) (by decide)
  have HQ5 : Hid (qa < w4.heap.size) := rlt
  have HE5 : Hid (W5.heap.size = w4.heap.size + 1) := e5
  clear hW5 e5 rlt
  refine (run_two ((HCD4.out.below (Nat.le_refl _) HB45.out).below (Nat.le_refl _) ((Below.refl _ _).alloc (Nat.le_refl _) _)) HP5.out run_b.1 em_b).mono ?_
  rintro _ w6 ⟨qb, eb, nb, cb, sb, tb, db, rfl, rb, rlt, hb6⟩
  have HB6 : Hid (Below W5.heap.size W5 w6) := ((Below.refl _ _).alloc (Nat.le_refl _) _).trans (hb6.mono (by simp))
  have HB46 : Hid (Below w4.heap.size w4 w6) := HB45.out.trans (HB6.out.mono HB45.out.size)
  have HW6 : Hid (Below w.heap.size w w6) := HW4.out.trans (HB46.out.mono HW4.out.size)
  have HXA6 : Hid (Box w6 w4.heap.size 27 #[.slice (some ⟨qa, 0, none⟩) 16 16, .slice ea na ca, .slice sa ta da, .int .i64 (sA : Int)]) := HXA.out.kept (HB6.out.block _ (by rw [HE5.out]; omega))
  have HRA6 : Hid (w6.cell? ⟨qa, 0, none⟩ = some (.int .i64 2)) := (HB46.out.cell (p := ⟨qa, 0, none⟩) HQ5.out).trans HRA.out
  have HRB : Hid (w6.cell? ⟨qb, 0, none⟩ = some (.int .i64 1)) := rb
  have HQ6 : Hid (qb < w6.heap.size) := rlt
  clear hb6 rb rlt
  rw [run_b.2]
  go_wp2_with fail
  generalize hW7 : w6.alloc (.cells #[.slice (some ⟨qb, 0, none⟩) 16 16, .slice eb nb cb, .slice sb tb db, .int .i64 6] 27) = W7
  have e7 : W7.heap.size = w6.heap.size + 1 := by rw [← hW7]; simp
  have HB67 : Hid (Below w6.heap.size w6 W7) := by unfold Hid; rw [← hW7]; exact (Below.refl _ _).alloc (Nat.le_refl _) _
  have HXB : Hid (Box W7 w6.heap.size 27 #[.slice (some ⟨qb, 0, none⟩) 16 16, .slice eb nb cb, .slice sb tb db, .int .i64 6]) := by unfold Hid; rw [← hW7]; exact Box.new w6 _ _
  generalize hW8 : W7.alloc (.cells #[.int .i64 15, .int .i64 0, .int .i64 0, .int .i64 0] 37) = W8
  have e8 : W8.heap.size = w6.heap.size + 1 + 1 := by rw [← hW8]; simp [e7]
  have HB78 : Hid (Below W7.heap.size W7 W8) := by unfold Hid; rw [← hW8]; exact (Below.refl _ _).alloc (Nat.le_refl _) _
  have HI8 : Hid (IcAt W8 (some ⟨w6.heap.size + 1, 0, none⟩) 1 1 [⟨15, 0, 0, 0⟩]) := by
    unfold Hid
    rw [← hW8, ← e7]
    exact IcAt.box (l := [⟨15, 0, 0, 0⟩]) (Box.new W7 37 _) (by unfold maxLen; decide) (by
      intro j hj
      match j, hj with
      | 0, _ => simp [in64])
  have HC9 : Hid (CdAt (W8.alloc (.cells #[.slice (some ⟨w6.heap.size + 1, 0, none⟩) 1 1] 38)) (some ⟨w6.heap.size + 1 + 1, 0, none⟩) 1 1 [[⟨15, 0, 0, 0⟩]]) := by
    unfold Hid
    rw [← e8]
    exact CdAt.one (Box.new W8 38 _) (HI8.out.below (Nat.le_refl _) ((Below.refl _ _).alloc (Nat.le_refl _) _))
  have HE7 : Hid (W7.heap.size = w6.heap.size + 1) := e7
  clear hW7 hW8 e7 e8
  refine (srun_at _ 1 1 [[⟨15, 0, 0, 0⟩]] none 0 0 [] none 0 0 [] HC9.out (IsAt.nil _) (IsAt.nil _) (by decide) (fun h => by rw [allOk15] at h; cases h)).mono ?_
  rintro e w10 (⟨_, rfl, hb10⟩ | ⟨h, _⟩)
  case inr => rw [allOk15] at h; cases h
  have HB10 : Hid (Below W7.heap.size W7 w10) := (HB78.out.alloc HB78.out.size _).trans (hb10.mono (by have := HB78.out.size; simp; omega))
  have HB610 : Hid (Below w6.heap.size w6 w10) := HB67.out.trans (HB10.out.mono HB67.out.size)
  have HW10 : Hid (Below w.heap.size w w10) := HW6.out.trans (HB610.out.mono HW6.out.size)
  have hxa := HXA6.out.kept (HB610.out.block _ HXA6.out.lt)
  have hxb := HXB.out.kept (HB10.out.block _ HXB.out.lt)
  have ra : w10.cell? ⟨qa, 0, none⟩ = some (.int .i64 2) := (HB610.out.cell (p := ⟨qa, 0, none⟩) (World.block_lt_of_cell? w6 _ HRA6.out)).trans HRA6.out
  have rb : w10.cell? ⟨qb, 0, none⟩ = some (.int .i64 1) := (HB610.out.cell (p := ⟨qb, 0, none⟩) HQ6.out).trans HRB.out
  have a0 := hxa.cell 0
  have b0 := hxb.cell 0
  have b3 := hxb.cell 3
  have a1 := hxa.cell 1
  have a2 := hxa.cell 2
  have a3 := hxa.cell 3
  have b1 := hxb.cell 1
  have b2 := hxb.cell 2
  simp at a0 a1 a2 a3 b0 b1 b2 b3
  have l1 : w4.heap.size < w10.heap.size := hxa.lt
  have l2 : w6.heap.size < w10.heap.size := hxb.lt
  have l3 := World.block_lt_of_cell? w10 _ ra
  have l4 := World.block_lt_of_cell? w10 _ rb
  simp only at l3 l4
  clear hb10 hxa hxb
  go_wp2
  go_returns
  exact ⟨rfl, HW10.out.alloc HW10.out.size _⟩
end Go.Proofs.Ytehkcgjiimfdjaa
