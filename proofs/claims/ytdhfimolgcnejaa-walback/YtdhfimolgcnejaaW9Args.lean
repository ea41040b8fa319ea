/- Lists of records as arguments: what a reading of one gives. -/
import Derived.Test.YtdhfimolgcnejaaW9Rd0
import Derived.Test.YtdhfimolgcnejaaArgs
import Derived.Deep.Slices
namespace Go.Proofs.Ytdhfimolgcnejaa
open Go.ChangeShapes Go.WideShapes Go.RowKit
set_option maxRecDepth 100000 in
theorem cells_bs : Try.prog.cellsOf 23 = 1 := by kernel_rfl
set_option maxRecDepth 100000 in
theorem cells_u8 : Try.prog.cellsOf 5 = 1 := by kernel_rfl
section
variable {H : Type} {enc : TypeId × Value → H} {w : World} {base : Nat} {held : Bool}
theorem listOf {α : Type} {d : α} {n : Nat} {P : Nat → α → Prop} (h : ∀ i, i < n → ∃ x, P i x) : ∃ l : List α, l.length = n ∧ ∀ i, i < n → P i (l.getD i d) := by
  induction n with
  | zero => exact ⟨[], rfl, fun i hi => absurd hi (Nat.not_lt_zero _)⟩
  | succ n ih =>
    obtain ⟨l, hl, hall⟩ := ih (fun i hi => h i (by omega))
    obtain ⟨o, ho⟩ := h n (by omega)
    refine ⟨l ++ [o], by simp [hl], fun i hi => ?_⟩
    by_cases hi' : i < n
    · have e : (l ++ [o]).getD i d = l.getD i d := by simp [List.getD, List.getElem?_append_left (show i < l.length by omega)]
      rw [e]
      exact hall i hi'
    · obtain rfl : i = n := by omega
      have e : (l ++ [o]).getD i d = o := by simp [List.getD, ← hl]
      rw [e]
      exact ho
theorem open_bs {fuel : Nat} {cs : List Value} {x : DataW H × List MemPlace} (h : DataW.trod enc Try.prog w base (fun _ => true) held fuel 23 cs = some x) : ∃ a len cap l, cs = [.slice a len cap] ∧ BsAt w a len cap l := by
  rcases open_ints Try.underlying23 Try.underlying5 cells_u8 h with ⟨hcs, _⟩ | ⟨x, l, c, zs, hcs, _, hl, hm, hz, _, hcell, hwz⟩
  · exact ⟨none, 0, 0, [], hcs, BsAt.nil w⟩
  · exact ⟨some x, l, c, _, hcs, BsAt.ofInts hl hm (by simpa using hz) hcell hwz⟩
set_option maxRecDepth 100000 in
theorem open_rows {fuel : Nat} {cs : List Value} {x : DataW H × List MemPlace} (h : DataW.trod enc Try.prog w base (fun _ => true) held fuel 28 cs = some x) : ∃ a len cap l, cs = [.slice a len cap] ∧ RsAt w a len cap l := by
  rcases Go.Deep.open_slice Try.underlying28 h with ⟨h0, _⟩ | ⟨a, len, cap, m, n, D, Pl, rfl, hb, hl, hm, hmm, rfl, hx⟩
  · exact ⟨none, 0, 0, [], h0, rfl, Nat.le_refl _, Nat.zero_le _, fun _ => rfl, fun h => absurd h (Nat.lt_irrefl _)⟩
  have hlm : len ≤ m := by rw [hmm]; split <;> omega
  obtain ⟨l, hll, hall⟩ := listOf (d := ([] : List UInt8)) (n := len) (P := fun i c => ∃ aj cj, w.cell? (a.add i) = some (.slice aj c.length cj) ∧ BsAt w aj c.length cj c) (by
    intro i hi
    obtain ⟨cs', h1, h2⟩ := hx i (by omega)
    rw [cells_bs] at h1
    obtain ⟨_, _, hcell⟩ := World.cells?_some h1
    obtain ⟨aj, lj, cj, c, rfl, hI⟩ := open_bs h2
    have := hcell 0 (by omega)
    rw [Go.Deep.add_add] at this
    have e := hI.size
    subst e
    refine ⟨c, aj, cj, ?_, hI⟩
    simpa using this)
  refine ⟨some a, len, cap, l, rfl, hll, hl, hm, by simp, fun hp => ?_⟩
  obtain ⟨b, off, spot⟩ := a
  obtain ⟨_, _, h0, _⟩ := hall 0 hp
  have hspot : spot = none := by simpa [Addr.add] using World.cell?_spot h0
  subst hspot
  refine ⟨b, off, rfl, fun j hj => ?_⟩
  obtain ⟨aj, cj, h1, h2⟩ := hall j hj
  rw [Addr.add_lit] at h1
  exact ⟨aj, cj, h1, h2⟩
end
end Go.Proofs.Ytdhfimolgcnejaa
