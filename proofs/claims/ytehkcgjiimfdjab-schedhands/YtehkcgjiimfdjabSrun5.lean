/- The contract of sched.Run. -/
import Derived.Test.YtehkcgjiimfdjabChk6
import Derived.Test.YtehkcgjiimfdjabDo5
import Derived.Test.YtehkcgjiimfdjabBeg5
import Derived.Test.YtehkcgjiimfdjabOut5
namespace Go.Proofs.Ytehkcgjiimfdjab
open Go.RowKit
theorem fresh_ok {c : List Ins} (h : codeOk c = true) : (fresh c).Ok := by
  unfold fresh PTask.goTo
  by_cases e : (0 : Nat) = c.length
  · rw [if_pos e]
    exact ⟨h, rfl, by simp, fun h3 => absurd h3 (by simp), fun h3 => by simp at h3, by simp⟩
  · rw [if_neg e]
    exact ⟨h, rfl, by simp, fun _ => by simp only; omega, fun h3 => by simp only at h3; omega, by simp⟩
theorem begins_ok {code : List (List Ins)} {cs : List Int} (h : allOk code cs = true) : (begins code cs).Ok := by
  simp only [allOk, Bool.and_eq_true, decide_eq_true_eq, List.all_eq_true] at h
  refine ⟨by simp [begins]; omega, by simp [begins], by rw [begins_len]; exact h.1.1, fun i hi => ?_, fun m k hm => ?_⟩
  · rw [begins_len] at hi
    rw [begins_t _ _ hi]
    exact fresh_ok (h.2 _ (by simp [List.getD, hi]))
  · exfalso
    have e : (begins code cs).own = List.replicate 16 none := rfl
    rw [e] at hm
    simp only [List.getD, List.getElem?_replicate] at hm
    split at hm <;> cases hm
structure Ran (w w' : World) (B : PB) (qc : Nat) (ea : Option Addr) (ec : Nat) (sa : Option Addr) (sc : Nat) : Prop where
  cells : Box w' qc 3 (B.cells.map (Value.int .i64)).toArray
  states : w'.ownsRow w.heap.size 3 1 (.slice sa B.ts.length sc) B.ts.length (B.states.map (Value.int .i64))
  emits : w'.ownsRow w.heap.size 35 2 (.slice ea B.em.length ec) B.em.length (cellsE B.em)
  base : Below w.heap.size w w'
  ok : B.Ok
set_option maxRecDepth 100000 in
set_option maxHeartbeats 1000000 in
theorem srun_at {w : World} (a : Option Addr) (len cap : Nat) (code : List (List Ins)) (ca : Option Addr) (cl cc : Nat) (cs : List Int) (pa : Option Addr) (pl pc : Nat) (ps : List Int) (h : CdAt w a len cap code) (hc : IsAt w ca cl cc cs) (hp : IsAt w pa pl pc ps) (hst : ps.length ≤ 4611686018427387904) (hem : allOk code cs = true → ((begins code cs).run ps).em.length < 1099511627776) :
    Calls Try.prog 5 #[.slice a len cap, .slice ca cl cc, .slice pa pl pc] w fun e w' => (allOk code cs = false ∧ e = .returned (.tuple #[.agg #[.slice none 0 0, .slice none 0 0, .slice none 0 0, .int .i64 0], .int .i64 50]) ∧ Below w.heap.size w w') ∨
      (allOk code cs = true ∧ ∃ qc ea ec sa sc, e = .returned (.tuple #[.agg #[.slice (some ⟨qc, 0, none⟩) 16 16, .slice ea ((begins code cs).run ps).em.length ec, .slice sa ((begins code cs).run ps).ts.length sc, .int .i64 (((begins code cs).run ps).steps : Int)], .int .i64 0]) ∧ Ran w w' ((begins code cs).run ps) qc ea ec sa sc) := by
  have HC : Hid (CdAt w a len cap code) := h
  have HI : Hid (IsAt w ca cl cc cs) := hc
  have HP : Hid (IsAt w pa pl pc ps) := hp
  have HS : Hid (cs.length = cl) := hc.size
  clear h hc hp
  have hA : Below w.heap.size w (w.alloc (.cells #[.slice none 0 0, .slice none 0 0, .slice none 0 0, .int .i64 0] 29)) := (Below.refl _ _).alloc (Nat.le_refl _) _
  have HX : Hid (Box (w.alloc (.cells #[.slice none 0 0, .slice none 0 0, .slice none 0 0, .int .i64 0] 29)) w.heap.size 29 #[.slice none 0 0, .slice none 0 0, .slice none 0 0, .int .i64 0]) := Box.new w _ _
  have HAL : Hid (Calls Try.prog 7 #[.slice a len cap, .slice ca cl cc] (w.alloc (.cells #[.slice none 0 0, .slice none 0 0, .slice none 0 0, .int .i64 0] 29)) fun e w2 => e = .returned (.bool (allOk code cs)) ∧ w.heap.size < w2.heap.size ∧ Below w.heap.size w w2 ∧ Box w2 w.heap.size 29 #[.slice none 0 0, .slice none 0 0, .slice none 0 0, .int .i64 0]) := by
    refine (allowed_any a len cap code ca cl cc cs _ (HC.out.below (Nat.le_refl _) hA) HS.out).mono ?_
    rintro e w2 ⟨h1, h2⟩
    have h3 := h2.size
    simp at h3
    exact ⟨h1, by omega, hA.trans (h2.mono (by simp)), HX.out.kept (h2.block _ (by simp))⟩
  clear hA HX
  cases hok : allOk code cs
  · rw [hok] at HAL
    go_enter Try.func5, Try.ntmps5
    go_wp2_with fail
    refine (Calls.mono HAL.out) ?_
    rintro _ w2 ⟨rfl, hlt2, hb2, hx2⟩
    have z0 := hx2.cell 0
    have z1 := hx2.cell 1
    have z2 := hx2.cell 2
    have z3 := hx2.cell 3
    simp at z0 z1 z2 z3
    have t0 := hx2.soft 0
    have t1 := hx2.soft 1
    have t2 := hx2.soft 2
    have t3 := hx2.soft 3
    go_wp2
    refine bodyPost_ret (v := .tuple #[.agg #[.slice none 0 0, .slice none 0 0, .slice none 0 0, .int .i64 0], .int .i64 50]) (by simp [results, Try.results5, go_sem, *]) rfl ?_
    exact .inl ⟨trivial, rfl, (((hb2.setCell (Nat.le_refl _) _).setCell (Nat.le_refl _) _).setCell (Nat.le_refl _) _).setCell (Nat.le_refl _) _⟩
  · rw [hok] at HAL
    go_enter Try.func5, Try.ntmps5
    go_wp2_with fail
    refine (Calls.mono HAL.out) ?_
    rintro _ w2 ⟨rfl, hlt2, hb2, hx2⟩
    have HX2 : Hid (Box w2 w.heap.size 29 #[.slice none 0 0, .slice none 0 0, .slice none 0 0, .int .i64 0]) := hx2
    have HB2 : Hid (Below w.heap.size w w2) := hb2
    clear hx2 hb2 HAL
    go_wp2_with fail
    refine (begin_at a len cap code ca cl cc cs (HC.out.below (Nat.le_refl _) HB2.out) (HI.out.below (Nat.le_refl _) HB2.out) hok).mono ?_
    rintro _ w3 ⟨p, g, rfl, h3⟩
    have HB3 : Hid (BdAt w2 w3 p g (begins code cs)) := h3
    clear h3
    go_wp2_with fail
    refine (run_at do_at HB3.out (begins_ok hok) pa pl pc ps (HP.out.below (Nat.le_refl _) HB2.out) (hem hok) (by show 0 + ps.length ≤ _; omega)).mono ?_
    rintro _ w4 ⟨rfl, g4, h4, _⟩
    have HB4 : Hid (BdAt w2 w4 p g4 ((begins code cs).run ps)) := h4
    have HOK : Hid ((begins code cs).run ps).Ok := (run_ok ps (begins_ok hok)).1
    clear h4
    go_wp2_with fail
    refine (outcome_at HB4.out HOK.out).mono ?_
    rintro _ w5 ⟨qc, sa, sc, rfl, x1, x2, x3, x4⟩
    have hx5 := HX2.out.kept (x4.block _ hlt2)
    have z0 := hx5.cell 0
    have z1 := hx5.cell 1
    have z2 := hx5.cell 2
    have z3 := hx5.cell 3
    simp at z0 z1 z2 z3
    have t0 := hx5.soft 0
    have t1 := hx5.soft 1
    have t2 := hx5.soft 2
    have t3 := hx5.soft 3
    have HX1 : Hid (Box w5 qc 3 (((begins code cs).run ps).cells.map (Value.int .i64)).toArray) := x1
    have HX3 : Hid (w5.ownsRow w2.heap.size 3 1 (.slice sa ((begins code cs).run ps).ts.length sc) ((begins code cs).run ps).ts.length (((begins code cs).run ps).states.map (Value.int .i64))) := x2
    have HX4 : Hid (w5.ownsRow w2.heap.size 35 2 (.slice g4.ea ((begins code cs).run ps).em.length g4.ec) ((begins code cs).run ps).em.length (cellsE ((begins code cs).run ps).em)) := x3
    have HX5 : Hid (Below w2.heap.size w2 w5) := x4
    have HX6 : Hid (Box w5 w.heap.size 29 #[.slice none 0 0, .slice none 0 0, .slice none 0 0, .int .i64 0]) := hx5
    clear x1 x2 x3 x4 hx5 HC HI HP
    obtain ⟨em, HEM⟩ : ∃ em, Hid (em = ((begins code cs).run ps).em.length) := ⟨_, rfl⟩
    obtain ⟨tn, HTN⟩ : ∃ tn, Hid (tn = ((begins code cs).run ps).ts.length) := ⟨_, rfl⟩
    obtain ⟨sn, HSN⟩ : ∃ sn : Int, Hid (sn = (((begins code cs).run ps).steps : Int)) := ⟨_, rfl⟩
    rw [← HEM.out, ← HTN.out, ← HSN.out]
    go_wp2
    refine bodyPost_ret (v := .tuple #[.agg #[.slice (some ⟨qc, 0, none⟩) 16 16, .slice g4.ea em g4.ec, .slice sa tn sc, .int .i64 sn], .int .i64 0]) (by simp [results, Try.results5, go_sem, *]) rfl ?_
    refine .inr ⟨trivial, qc, g4.ea, g4.ec, sa, sc, by rw [HEM.out, HTN.out, HSN.out], ?_⟩
    have hlow : ∀ b, b ≠ w.heap.size → ((((w5.setCell ⟨w.heap.size, 0, none⟩ (.slice (some ⟨qc, 0, none⟩) 16 16)).setCell ⟨w.heap.size, 1, none⟩ (.slice g4.ea em g4.ec)).setCell ⟨w.heap.size, 2, none⟩ (.slice sa tn sc)).setCell ⟨w.heap.size, 3, none⟩ (.int .i64 sn)).heap[b]? = w5.heap[b]? := fun b hb => by
      rw [Below.heap_setCell _ _ _ _ hb, Below.heap_setCell _ _ _ _ hb, Below.heap_setCell _ _ _ _ hb, Below.heap_setCell _ _ _ _ hb]
    have hle2 : w.heap.size ≤ w2.heap.size := Nat.le_of_lt hlt2
    have lower : ∀ {e : TypeId} {size n : Nat} {v : Value} {xs : List Value} {W : World}, W.ownsRow w2.heap.size e size v n xs → W.ownsRow w.heap.size e size v n xs := by
      intro e size n v xs W hW
      refine ⟨hW.1, ?_⟩
      rcases hW.2 with hn | ⟨b, c, cur, hv, hB, hg, rest⟩
      · exact .inl hn
      · exact .inr ⟨b, c, cur, hv, Nat.le_trans hle2 hB, hg, rest⟩
    refine ⟨HX1.out.kept (hlow qc (tag_ne HX1.out.tag HX6.out.tag (by decide))), lower (row_same HX3.out fun b e => hlow b (tag_ne (row_tag HX3.out e) HX6.out.tag (by decide))), lower (row_same HX4.out fun b e => hlow b (tag_ne (row_tag HX4.out e) HX6.out.tag (by decide))), ?_, HOK.out⟩
    exact ((((HB2.out.trans (HX5.out.mono hle2)).setCell (Nat.le_refl _) _).setCell (Nat.le_refl _) _).setCell (Nat.le_refl _) _).setCell (Nat.le_refl _) _
end Go.Proofs.Ytehkcgjiimfdjab
