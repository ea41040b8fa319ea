/- A run with fewer picks is a beginning. -/
import Derived.Test.YtehkcgjiimfdjaaPbSrun
namespace Go.Proofs.Ytehkcgjiimfdjaa
open Go.RowKit
theorem run_full : ∀ (l : List Int) {B : PB}, B.Ok → (B.run l).steps = B.steps + l.length ∨ ((B.run l).able.length = 0 ∧ (B.run l).steps ≤ B.steps + l.length)
  | [], B, _ => .inl rfl
  | n :: l, B, h => by
    obtain ⟨a, _, _, d⟩ := step_ok h n
    have er : B.run (n :: l) = (B.step n).run l := rfl
    rw [er]
    rcases d with ⟨d1, d2⟩ | ⟨_, d⟩
    · rw [d2, run_stuck l d1]
      exact .inr ⟨d1, by omega⟩
    · rcases run_full l a with e | ⟨e1, e2⟩
      · exact .inl (by rw [e, d]; simp; omega)
      · exact .inr ⟨e1, by simp; omega⟩
theorem steps_up : ∀ (l : List Int) {B : PB}, B.Ok → B.steps ≤ (B.run l).steps
  | [], _, _ => Nat.le_refl _
  | n :: l, B, h => by
    obtain ⟨a, _, _, d⟩ := step_ok h n
    have er : B.run (n :: l) = (B.step n).run l := rfl
    have := steps_up l a
    rw [er]
    rcases d with ⟨_, d⟩ | ⟨_, d⟩
    · rw [d] at this ⊢; exact this
    · omega
/-- What SchedBegins asks, plainly. -/
theorem begins_part {code : List (List Ins)} {cs ps : List Int} (h : allOk code cs = true) {k : Nat} (hk : k ≤ ps.length) :
    ((begins code cs).run (ps.take k)).steps ≤ k ∧ ((begins code cs).run (ps.take k)).steps ≤ ((begins code cs).run ps).steps ∧ (((begins code cs).run (ps.take k)).steps < k → ((begins code cs).run ps).steps = ((begins code cs).run (ps.take k)).steps) ∧ ∃ e, ((begins code cs).run ps).em = ((begins code cs).run (ps.take k)).em ++ e := by
  have h0 := begins_ok h
  have h1 := (run_ok (ps.take k) h0)
  have ep : (begins code cs).run ps = ((begins code cs).run (ps.take k)).run (ps.drop k) := by rw [← run_append, List.take_append_drop]
  have hl : (ps.take k).length = k := by simp; omega
  have hs : (begins code cs).steps = 0 := rfl
  rcases run_full (ps.take k) h0 with e | ⟨e1, e2⟩
  · rw [hl, hs] at e
    refine ⟨by omega, ?_, fun h9 => by omega, ?_⟩
    · rw [ep]
      exact steps_up _ h1.1
    · rw [ep]
      obtain ⟨x, hx, _⟩ := (run_ok (ps.drop k) h1.1).2.2.1
      exact ⟨x, hx⟩
  · rw [hl, hs] at e2
    rw [ep, run_stuck _ e1]
    exact ⟨by omega, Nat.le_refl _, fun _ => rfl, [], by simp⟩
theorem em_le {code : List (List Ins)} {cs : List Int} (h : allOk code cs = true) (ps : List Int) : ((begins code cs).run ps).em.length ≤ ps.length := by
  obtain ⟨e, h1, h2⟩ := (run_ok ps (begins_ok h)).2.2.1
  rw [h1]
  simp [begins]
  omega
/-- Two entries of what was told, held against one another by the language's own equality. -/
theorem run_neq_emit (a b c d : Int) (W : World) : (binOp .neq 34 (.agg #[.int .i64 a, .int .i64 b]) (.agg #[.int .i64 c, .int .i64 d])).run Try.prog W = .ok (.bool (!((a == c) && (b == d)))) W := by
  by_cases h1 : (a == c) = true
  · by_cases h2 : (b == d) = true
    · simp [go_sem, h1, h2, Try.underlying34, Try.underlying3]
    · simp [go_sem, h1, h2, Try.underlying34, Try.underlying3]
  · simp [go_sem, h1, Try.underlying34, Try.underlying3]
theorem cellsE_at : ∀ (l : List (Nat × Int)) (j : Nat), j < l.length → (cellsE l)[j * 2]? = some (.int .i64 ((l.getD j (0, 0)).1 : Int)) ∧ (cellsE l)[j * 2 + 1]? = some (.int .i64 (l.getD j (0, 0)).2)
  | [], j, h => by simp at h
  | x :: r, 0, _ => by simp [cellsE, List.getD]
  | x :: r, j + 1, h => by
    have := cellsE_at r j (by simpa using h)
    rw [cellsE, show (j + 1) * 2 = j * 2 + 1 + 1 by omega]
    simpa [List.getD] using this
/-- An entry of a run's, in memory. -/
theorem Ran.emitAt {w w' : World} {B : PB} {qc : Nat} {ea : Option Addr} {ec : Nat} {sa : Option Addr} {sc : Nat} (h : Ran w w' B qc ea ec sa sc) {j : Nat} (hj : j < B.em.length) : ∃ r, ea = some ⟨r, 0, none⟩ ∧ w'.cell? ⟨r, j * 2, none⟩ = some (.int .i64 ((B.em.getD j (0, 0)).1 : Int)) ∧ w'.cell? ⟨r, j * 2 + 1, none⟩ = some (.int .i64 (B.em.getD j (0, 0)).2) ∧ B.em.length ≤ ec ∧ ec ≤ maxLen ∧ r < w'.heap.size := by
  obtain ⟨c0, c1⟩ := cellsE_at B.em j hj
  rcases h.emits.2 with ⟨hv, h0⟩ | ⟨fr, cp, cur, hv, hB, hg, h1, h2, h3, h4⟩
  · omega
  · simp only [Value.slice.injEq, true_and] at hv
    obtain ⟨e1, rfl⟩ := hv
    have hrow := h.emits
    rw [e1] at hrow
    have p0 := World.ownsRow.cellAt hrow (j * 2) (by omega)
    have p1 := World.ownsRow.cellAt hrow (j * 2 + 1) (by omega)
    rw [c0] at p0
    rw [c1] at p1
    exact ⟨fr, e1, p0, p1, h1, h2, (Array.getElem?_eq_some_iff.1 hg).1⟩
end Go.Proofs.Ytehkcgjiimfdjaa
