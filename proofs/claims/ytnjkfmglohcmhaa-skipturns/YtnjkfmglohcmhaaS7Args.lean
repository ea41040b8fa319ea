/- Puts, lists of puts and of ints as arguments: what a reading of one gives. -/
import Derived.Test.YtnjkfmglohcmhaaArgs
import Derived.Test.YtnjkfmglohcmhaaBoxM
import Derived.Deep.Slices
import Derived.Deep.Strs
import Derived.ChangeSame
import Derived.SizedLaws
import Derived.WideShapes
namespace Go.Proofs.Ytnjkfmglohcmhaa
open Go.ChangeShapes Go.WideShapes Go.RowKit
theorem IsAt.ofInts {w : World} {x : Addr} {len cap : Nat} {zs : List Int} (hl : len ≤ cap) (hm : cap ≤ maxLen) (hz : zs.length = cap)
    (hcell : ∀ i, i < zs.length → w.cell? (x.add i) = some (.int .i64 (zs.getD i 0))) (hwz : ∀ n ∈ zs, (Lit.int .i64 n).wf = true) :
    IsAt w (some x) len cap (zs.take len) := by
  have hb : ∀ i, i < zs.length → -9223372036854775808 ≤ zs.getD i 0 ∧ zs.getD i 0 ≤ 9223372036854775807 := by
    intro i hi
    have hmem : zs.getD i 0 ∈ zs := by simp [List.getD, hi]
    have := hwz _ hmem
    simp [Lit.wf, IntKind.min, IntKind.max, IntKind.bits, IntKind.signed] at this
    have e : zs.getD i 0 = zs[i]?.getD 0 := by simp
    omega
  have e : ∀ j, j < len → (zs.take len).getD j 0 = zs.getD j 0 := fun j hj => by simp [List.getD, hj]
  refine ⟨by simp; omega, hl, hm, by simp, fun j hj => by rw [e j hj]; exact hb j (by omega), fun hp => ?_⟩
  obtain ⟨b, off, rfl, hc⟩ := ints_at hcell (by omega)
  refine ⟨b, off, rfl, fun j hj => ?_⟩
  rw [hc j (by omega), e j hj]
theorem in64_wf {n : Int} (h : (Lit.int .i64 n).wf = true) : in64 n := by
  simp [Lit.wf, IntKind.min, IntKind.max, IntKind.bits, IntKind.signed] at h
  unfold in64
  omega
/-- A key that is put, so high. -/
structure PutV where
  key : ByteArray
  height : Int
def put0 : PutV := ⟨⟨#[]⟩, 0⟩
structure PsAt (w : World) (a : Option Addr) (len cap : Nat) (l : List PutV) : Prop where
  size : l.length = len
  le : len ≤ cap
  max : cap ≤ maxLen
  ok : ∀ j, j < len → in64 (l.getD j put0).height ∧ (l.getD j put0).key.size ≤ 9223372036854775807
  here : 0 < len → ∃ b off, a = some ⟨b, off, none⟩ ∧ ∀ j, j < len → w.cell? ⟨b, off + j * 2, none⟩ = some (.string (l.getD j put0).key) ∧ w.cell? ⟨b, off + j * 2 + 1, none⟩ = some (.int .i64 (l.getD j put0).height)
theorem PsAt.below {w w' : World} {a : Option Addr} {len cap : Nat} {l : List PutV} (h : PsAt w a len cap l) (hb : Below w.heap.size w w') : PsAt w' a len cap l :=
  ⟨h.size, h.le, h.max, h.ok, fun hp => by
    obtain ⟨b, off, ha, hc⟩ := h.here hp
    refine ⟨b, off, ha, fun j hj => ?_⟩
    obtain ⟨h1, h2⟩ := hc j hj
    rw [hb.cell (World.block_lt_of_cell? w _ h1), hb.cell (World.block_lt_of_cell? w _ h2)]
    exact ⟨h1, h2⟩⟩
theorem PsAt.nil (w : World) : PsAt w none 0 0 [] := ⟨rfl, Nat.le_refl _, Nat.zero_le _, fun _ h => absurd h (Nat.not_lt_zero _), fun h => absurd h (Nat.lt_irrefl _)⟩
set_option maxRecDepth 100000 in
theorem cells_put : Try.prog.cellsOf 49 = 2 := by kernel_rfl
set_option maxRecDepth 100000 in
theorem cells_pstr : Try.prog.cellsOf 9 = 1 := by kernel_rfl
set_option maxRecDepth 100000 in
theorem cells_pint : Try.prog.cellsOf 3 = 1 := by kernel_rfl
section
variable {H : Type} {enc : TypeId × Value → H} {w : World} {base : Nat} {sp : Nat → Bool} {held : Bool}
theorem open_put {n : Nat} {cs : List Value} {y : DataW H × List MemPlace} (h : DataW.trod enc Try.prog w base sp held n 49 cs = some y) :
    ∃ o : PutV, cs = [.string o.key, .int .i64 o.height] ∧ in64 o.height ∧ o.key.size ≤ 9223372036854775807 := by
  obtain ⟨y0, y1, m, _, hl, h0, h1⟩ := trod_struct2 Try.underlying49 h
  rw [cells_put] at hl
  match cs, hl with
  | [c0, c1], _ =>
  obtain ⟨s, e0, _, ws⟩ := DataW.trod_string Try.underlying9 h0
  obtain ⟨k, e1, _, wk⟩ := DataW.trod_int Try.underlying3 h1
  simp [cells_pint, cells_pstr] at e0 e1
  subst e0 e1
  unfold maxLen at ws
  exact ⟨⟨s, k⟩, rfl, in64_wf wk, by omega⟩
theorem open_puts {fuel : Nat} {cs : List Value} {x : DataW H × List MemPlace} (h : DataW.trod enc Try.prog w base sp held fuel 23 cs = some x) :
    ∃ (a : Option Addr) (len cap : Nat) (l : List PutV), cs = [.slice a len cap] ∧ PsAt w a len cap l := by
  rcases Go.Deep.open_slice Try.underlying23 h with ⟨h0, _⟩ | ⟨a, len, cap, m, n, D, Pl, rfl, hb, hl, hm, hmm, rfl, hx⟩
  · exact ⟨none, 0, 0, [], h0, PsAt.nil w⟩
  have hlm : len ≤ m := by rw [hmm]; split <;> omega
  have each : ∀ i, i < len → ∃ o : PutV, w.cell? (a.add (i * 2)) = some (.string o.key) ∧ w.cell? (a.add (i * 2 + 1)) = some (.int .i64 o.height) ∧ in64 o.height ∧ o.key.size ≤ 9223372036854775807 := by
    intro i hi
    obtain ⟨cs', h1, h2⟩ := hx i (by omega)
    rw [cells_put] at h1
    obtain ⟨_, _, hcell⟩ := World.cells?_some h1
    obtain ⟨o, rfl, w1, w2⟩ := open_put h2
    have e0 := hcell 0 (by omega)
    have e1 := hcell 1 (by omega)
    rw [Go.Deep.add_add] at e0 e1
    exact ⟨o, by simpa using e0, by simpa using e1, w1, w2⟩
  have hlist : ∃ l : List PutV, l.length = len ∧ ∀ i, i < len → w.cell? (a.add (i * 2)) = some (.string (l.getD i put0).key) ∧ w.cell? (a.add (i * 2 + 1)) = some (.int .i64 (l.getD i put0).height) ∧ in64 (l.getD i put0).height ∧ (l.getD i put0).key.size ≤ 9223372036854775807 := by
    clear hl hm hlm hmm hb hx h
    induction len with
    | zero => exact ⟨[], rfl, fun i hi => absurd hi (Nat.not_lt_zero _)⟩
    | succ len ih =>
      obtain ⟨l, hl, hall⟩ := ih (fun i hi => each i (by omega))
      obtain ⟨o, ho⟩ := each len (by omega)
      refine ⟨l ++ [o], by simp [hl], fun i hi => ?_⟩
      by_cases hi' : i < len
      · have e : (l ++ [o]).getD i put0 = l.getD i put0 := by simp [List.getD, List.getElem?_append_left (show i < l.length by omega)]
        rw [e]
        exact hall i hi'
      · obtain rfl : i = len := by omega
        have e : (l ++ [o]).getD i put0 = o := by simp [List.getD, ← hl]
        rw [e]
        exact ho
  obtain ⟨l, hll, hall⟩ := hlist
  refine ⟨some a, len, cap, l, rfl, ⟨hll, hl, hm, fun j hj => (hall j hj).2.2, fun hp => ?_⟩⟩
  obtain ⟨b, off, spot⟩ := a
  have h0 := (hall 0 hp).1
  have hspot : spot = none := by simpa [Addr.add] using World.cell?_spot h0
  subst hspot
  refine ⟨b, off, rfl, fun j hj => ?_⟩
  obtain ⟨g0, g1, _⟩ := hall j hj
  have add_plain : ∀ n : Nat, (⟨b, off, none⟩ : Addr).add n = ⟨b, off + n, none⟩ := fun n => Addr.add_lit ..
  rw [add_plain] at g0 g1
  exact ⟨g0, by rw [Nat.add_assoc]; exact g1⟩
end
end Go.Proofs.Ytnjkfmglohcmhaa
