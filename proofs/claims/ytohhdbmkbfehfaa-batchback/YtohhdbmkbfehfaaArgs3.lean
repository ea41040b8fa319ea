/- Lists of operations as arguments: what a reading of one gives. -/
import Derived.Test.YtohhdbmkbfehfaaArgs
import Derived.Test.YtohhdbmkbfehfaaOps
import Derived.Deep.Strs
import Derived.Deep.Slices
import Derived.SizedLaws
import Derived.OpenShut
import Derived.WideShapes
namespace Go.Proofs.Ytohhdbmkbfehfaa
open Go.ChangeShapes Go.WideShapes Go.RowKit

theorem cells_op : Try.prog.cellsOf 39 = 3 := by kernel_rfl
theorem cells_opstr : Try.prog.cellsOf 9 = 1 := by kernel_rfl
theorem cells_opint : Try.prog.cellsOf 3 = 1 := by kernel_rfl
theorem bytes_op : Try.checked.prog.bytesOf 39 = 40 := by kernel_rfl

section
variable {H : Type} {enc : TypeId × Value → H} {w : World} {base : Nat} {sp : Nat → Bool} {held : Bool}
theorem open_op {n : Nat} {cs : List Value} {y : DataW H × List MemPlace} (h : DataW.trod enc Try.prog w base sp held n 39 cs = some y) :
    ∃ o : Opn, cs = [.int .i64 o.kind, .string o.key, .string o.val] ∧ (Lit.int .i64 o.kind).wf = true ∧ o.key.size ≤ maxLen ∧ o.val.size ≤ maxLen := by
  obtain ⟨y0, y1, y2, m, _, hl, h0, h1, h2⟩ := Go.Deep.trod_struct3 Try.underlying39 h
  rw [cells_op] at hl
  match cs, hl with
  | [c0, c1, c2], _ =>
  obtain ⟨k, e0, _, wk⟩ := DataW.trod_int Try.underlying3 h0
  obtain ⟨s, e1, _, ws⟩ := DataW.trod_string Try.underlying9 h1
  obtain ⟨t, e2, _, wt⟩ := DataW.trod_string Try.underlying9 h2
  simp [cells_opint, cells_opstr] at e0 e1 e2
  subst e0 e1 e2
  exact ⟨⟨k, s, t⟩, rfl, wk, ws, wt⟩
theorem open_ops {fuel : Nat} {cs : List Value} {x : DataW H × List MemPlace} (h : DataW.trod enc Try.prog w base sp held fuel 24 cs = some x) :
    (cs = [.slice none 0 0] ∧ x = (.nil, [])) ∨
    ∃ (a : Addr) (len cap : Nat) (l : List Opn) (es ss : List (DataW H)), cs = [.slice (some a) len cap] ∧ OpsAt w (some a) len cap l ∧ (∀ o ∈ l, (Lit.int .i64 o.kind).wf = true ∧ o.key.size ≤ maxLen ∧ o.val.size ≤ maxLen) ∧ x.1 = .slice es ss ∧ es.length = len ∧ (sp a.block = true → ss.length = cap - len) := by
  rcases Go.Deep.open_slice Try.underlying24 h with h0 | ⟨a, len, cap, m, n, D, Pl, rfl, hb, hl, hm, hmm, rfl, hx⟩
  · exact .inl h0
  right
  have hlm : len ≤ m := by rw [hmm]; split <;> omega
  have each : ∀ i, i < len → ∃ o : Opn, w.cell? (a.add (i * 3)) = some (.int .i64 o.kind) ∧ w.cell? (a.add (i * 3 + 1)) = some (.string o.key) ∧ w.cell? (a.add (i * 3 + 2)) = some (.string o.val) ∧ (Lit.int .i64 o.kind).wf = true ∧ o.key.size ≤ maxLen ∧ o.val.size ≤ maxLen := by
    intro i hi
    obtain ⟨cs', h1, h2⟩ := hx i (by omega)
    rw [cells_op] at h1
    obtain ⟨_, _, hcell⟩ := World.cells?_some h1
    obtain ⟨o, rfl, w1, w2, w3⟩ := open_op h2
    have e0 := hcell 0 (by omega)
    have e1 := hcell 1 (by omega)
    have e2 := hcell 2 (by omega)
    rw [Go.Deep.add_add] at e0 e1 e2
    exact ⟨o, by simpa using e0, by simpa using e1, by simpa using e2, w1, w2, w3⟩
  have hlist : ∃ l : List Opn, l.length = len ∧ ∀ i, i < len → w.cell? (a.add (i * 3)) = some (.int .i64 (l.getD i opn0).kind) ∧ w.cell? (a.add (i * 3 + 1)) = some (.string (l.getD i opn0).key) ∧ w.cell? (a.add (i * 3 + 2)) = some (.string (l.getD i opn0).val) ∧ (Lit.int .i64 (l.getD i opn0).kind).wf = true ∧ (l.getD i opn0).key.size ≤ maxLen ∧ (l.getD i opn0).val.size ≤ maxLen := by
    clear hl hm hlm hmm hb hx h
    induction len with
    | zero => exact ⟨[], rfl, fun i hi => absurd hi (Nat.not_lt_zero _)⟩
    | succ len ih =>
      obtain ⟨l, hl, hall⟩ := ih (fun i hi => each i (by omega))
      obtain ⟨o, ho⟩ := each len (by omega)
      refine ⟨l ++ [o], by simp [hl], fun i hi => ?_⟩
      by_cases hi' : i < len
      · have e : (l ++ [o]).getD i opn0 = l.getD i opn0 := by simp [List.getD, List.getElem?_append_left (show i < l.length by omega)]
        rw [e]
        exact hall i hi'
      · obtain rfl : i = len := by omega
        have e : (l ++ [o]).getD i opn0 = o := by simp [List.getD, ← hl]
        rw [e]
        exact ho
  obtain ⟨l, hll, hall⟩ := hlist
  refine ⟨a, len, cap, l, _, _, rfl, ⟨hll, hl, hm, by simp, fun hp => ?_⟩, ?_, rfl, by simp, ?_⟩
  · obtain ⟨b, off, spot⟩ := a
    have h0 := (hall 0 hp).1
    have hspot : spot = none := by simpa [Addr.add] using World.cell?_spot h0
    subst hspot
    refine ⟨b, off, rfl, fun j hj => ?_⟩
    obtain ⟨g0, g1, g2, _⟩ := hall j hj
    rw [add_plain] at g0 g1 g2
    exact ⟨g0, by rw [Nat.add_assoc]; exact g1, by rw [Nat.add_assoc]; exact g2⟩
  · intro o ho
    obtain ⟨i, hi, rfl⟩ := List.getElem_of_mem ho
    have := (hall i (by omega)).2.2.2
    have e : l.getD i opn0 = l[i] := by simp [List.getD, hi]
    rwa [e] at this
  · intro hs
    rw [hmm, if_pos hs]
    simp
end
end Go.Proofs.Ytohhdbmkbfehfaa
