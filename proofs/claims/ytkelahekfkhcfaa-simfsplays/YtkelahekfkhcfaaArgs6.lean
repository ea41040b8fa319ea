/- Lists of calls as arguments: what a reading of one gives, and how much each holds. -/
import Derived.Test.YtkelahekfkhcfaaArgs5
import Derived.Test.YtkelahekfkhcfaaCallsAt
import Derived.Deep.Slices
namespace Go.Proofs.Ytkelahekfkhcfaa
open Go.ChangeShapes Go.WideShapes Go.RowKit

set_option maxRecDepth 100000 in
theorem weightsAll_mem {H : Type} {P : Program} {e : TypeId} {n : Nat} : ∀ {l : List (DataW H)} {d : DataW H}, d ∈ l → n ∈ d.weights P e → n ∈ DataW.weightsAll P e l
  | x :: r, d, hd, hn => by
    rw [DataW.weightsAll]
    rcases List.mem_cons.1 hd with rfl | hd
    · exact List.mem_append_left _ hn
    · exact List.mem_append_right _ (weightsAll_mem hd hn)
set_option maxRecDepth 100000 in
theorem bytes_u8 : Try.checked.prog.bytesOf 5 = 1 := by kernel_rfl
set_option maxRecDepth 100000 in
theorem bytes_u8' : Try.prog.bytesOf 5 = 1 := by kernel_rfl

section
variable {H : Type} {enc : TypeId × Value → H} {w : World} {base : Nat} {held : Bool}
set_option maxRecDepth 100000 in
/-- A slice of bytes, with its reading's size. -/
theorem open_bsW {fuel : Nat} {cs : List Value} {x : DataW H × List MemPlace} (h : DataW.trod enc Try.prog w base (fun _ => true) held fuel 32 cs = some x) : ∃ a len cap bs, cs = [.slice a len cap] ∧ BsAt w a len cap bs ∧ (cap = 0 ∨ cap ∈ x.1.weights Try.prog 32) := by
  rcases open_ints Try.underlying32 Try.underlying5 (by kernel_rfl) h with ⟨hcs, _⟩ | ⟨y, l, c, zs, hcs, _, hl, hm, hz, hx, hcell, hwz⟩
  · exact ⟨none, 0, 0, [], hcs, BsAt.nil w, .inl rfl⟩
  · refine ⟨some y, l, c, _, hcs, BsAt.ofInts hl hm (by simpa using hz) hcell hwz, .inr ?_⟩
    have e : x.1 = .slice (lits IntKind.u8 (zs.take l)) (lits IntKind.u8 (zs.drop l)) := by rw [hx]
    rw [e]
    simp only [DataW.weights, Try.underlying32, bytes_u8']
    refine List.mem_cons.2 (.inl ?_)
    simp [lits] at hz ⊢
    omega
set_option maxRecDepth 100000 in
theorem open_callW {n : Nat} {cs : List Value} {y : DataW H × List MemPlace} (h : DataW.trod enc Try.prog w base (fun _ => true) held n 35 cs = some y) : ∃ c : CallV, cs = c.cells ∧ c.Ok w ∧ (c.bc = 0 ∨ c.bc ∈ y.1.weights Try.prog 35) := by
  obtain ⟨xs, m, _, hy, hl, hlen, hf⟩ := DataW.trod_struct Try.underlying35 h
  rw [cells_call] at hl
  match cs, hl with
  | [c0, c1, c2, c3, c4, c5], _ =>
  match xs, hlen with
  | [y0, y1, y2, y3, y4, y5], _ =>
  have h0 := hf 0 _ rfl
  have h1 := hf 1 _ rfl
  have h2 := hf 2 _ rfl
  have h3 := hf 3 _ rfl
  have h4 := hf 4 _ rfl
  have h5 := hf 5 _ rfl
  obtain ⟨k, e0, _, wk⟩ := DataW.trod_int Try.underlying3 h0
  obtain ⟨s, e1, _, _⟩ := DataW.trod_string Try.underlying9 h1
  obtain ⟨t, e2, _, _⟩ := DataW.trod_string Try.underlying9 h2
  obtain ⟨a3, l3, k3, b3, e3, w3, z3⟩ := open_bsW h3
  obtain ⟨n, e4, _, wn⟩ := DataW.trod_int Try.underlying3 h4
  obtain ⟨a5, l5, k5, b5, e5, w5⟩ := open_is h5
  simp [cells_cint, cells_cstr, cells_cbs, cells_cis] at e0 e1 e2 e3 e4 e5
  subst e0 e1 e2 e3 e4 e5
  refine ⟨⟨k, s, t, a3, l3, k3, b3, n, a5, l5, k5, b5⟩, rfl, ⟨wk, wn, w3, w5⟩, z3.imp id fun hz => ?_⟩
  have ey : y.1 = .agg [y0.1, y1.1, y2.1, y3.1, y4.1, y5.1] := by rw [hy]; simp
  rw [ey]
  simp only [DataW.weights, Try.underlying35]
  exact DataW.weights_mem_each (j := 3) (t := 32) (d := y3.1) rfl rfl _ hz
set_option maxRecDepth 100000 in
theorem open_calls {fuel : Nat} {cs : List Value} {x : DataW H × List MemPlace} (h : DataW.trod enc Try.prog w base (fun _ => true) held fuel 23 cs = some x) (hw : ∀ n ∈ x.1.weights Try.prog 23, n ≤ 140737488351232) :
    ∃ a len cap l, cs = [.slice a len cap] ∧ CsAt w a len cap l := by
  rcases Go.Deep.open_slice Try.underlying23 h with ⟨h0, _⟩ | ⟨a, len, cap, m, n, D, Pl, rfl, hb, hl, hm, hmm, rfl, hx⟩
  · exact ⟨none, 0, 0, [], h0, rfl, Nat.le_refl _, Nat.zero_le _, fun _ => rfl, fun _ h => absurd h (Nat.not_lt_zero _), fun h => absurd h (Nat.lt_irrefl _)⟩
  have hlm : len ≤ m := by rw [hmm]; split <;> omega
  have each : ∀ i, i < len → ∃ c : CallV, (∀ k v, c.cells[k]? = some v → w.cell? (a.add (i * 6 + k)) = some v) ∧ c.Ok w ∧ c.bc ≤ 140737488351232 := by
    intro i hi
    obtain ⟨cs', h1, h2⟩ := hx i (by omega)
    rw [cells_call] at h1
    obtain ⟨_, _, hcell⟩ := World.cells?_some h1
    obtain ⟨c, rfl, hok, hz⟩ := open_callW h2
    refine ⟨c, fun k v hv => ?_, hok, ?_⟩
    · have hk : k < 6 := (List.getElem?_eq_some_iff.1 hv).1
      have := hcell k hk
      rw [Go.Deep.add_add] at this
      rw [this]
      exact hv
    · rcases hz with hz | hz
      · omega
      · refine hw _ ?_
        simp only [DataW.weights, Try.underlying23]
        exact List.mem_cons_of_mem _ (List.mem_append_left _ (weightsAll_mem (List.mem_map.2 ⟨i, List.mem_range.2 hi, rfl⟩) hz))
  have hlist : ∃ l : List CallV, l.length = len ∧ ∀ i, i < len → (∀ k v, (l.getD i call0).cells[k]? = some v → w.cell? (a.add (i * 6 + k)) = some v) ∧ (l.getD i call0).Ok w ∧ (l.getD i call0).bc ≤ 140737488351232 := by
    clear hl hm hlm hmm hb hx h hw
    induction len with
    | zero => exact ⟨[], rfl, fun i hi => absurd hi (Nat.not_lt_zero _)⟩
    | succ len ih =>
      obtain ⟨l, hl, hall⟩ := ih (fun i hi => each i (by omega))
      obtain ⟨o, ho⟩ := each len (by omega)
      refine ⟨l ++ [o], by simp [hl], fun i hi => ?_⟩
      by_cases hi' : i < len
      · have e : (l ++ [o]).getD i call0 = l.getD i call0 := by simp [List.getD, List.getElem?_append_left (show i < l.length by omega)]
        rw [e]
        exact hall i hi'
      · obtain rfl : i = len := by omega
        have e : (l ++ [o]).getD i call0 = o := by simp [List.getD, ← hl]
        rw [e]
        exact ho
  obtain ⟨l, hll, hall⟩ := hlist
  refine ⟨some a, len, cap, l, rfl, hll, hl, hm, by simp, fun j hj => (hall j hj).2, fun hp => ?_⟩
  obtain ⟨b, off, spot⟩ := a
  have h0 := (hall 0 hp).1 0 _ rfl
  have hspot : spot = none := by simpa [Addr.add] using World.cell?_spot h0
  subst hspot
  refine ⟨b, off, rfl, fun j hj k v hv => ?_⟩
  have := (hall j hj).1 k v hv
  rw [add_plain] at this
  rw [Nat.add_assoc]
  exact this
end
end Go.Proofs.Ytkelahekfkhcfaa
