/- Lists of ints, and of tasks' instructions, as arguments: what a reading of one gives. -/
import Derived.Test.YtehkcgjiimfdjaaSMem
import Derived.Test.YtehkcgjiimfdjaaArgs
import Derived.Deep.Slices
namespace Go.Proofs.Ytehkcgjiimfdjaa
open Go.ChangeShapes Go.WideShapes Go.RowKit
theorem IsAt.ofInts {w : World} {x : Addr} {len cap : Nat} {zs : List Int} (hl : len ≤ cap) (hm : cap ≤ maxLen) (hz : zs.length = cap)
    (hcell : ∀ i, i < zs.length → w.cell? (x.add i) = some (.int .i64 (zs.getD i 0))) (hwz : ∀ n ∈ zs, (Lit.int .i64 n).wf = true) :
    IsAt w (some x) len cap (zs.take len) := by
  have hb : ∀ i, i < zs.length → -9223372036854775808 ≤ zs.getD i 0 ∧ zs.getD i 0 ≤ 9223372036854775807 := by
    intro i hi
    have hmem : zs.getD i 0 ∈ zs := by simp [List.getD, hi]
    have := hwz _ hmem
    simp [Lit.wf, IntKind.min, IntKind.max, IntKind.bits, IntKind.signed] at this
    have e : zs.getD i 0 = zs[i]?.getD 0 := by simp
    omega
  have e : ∀ j, j < len → (zs.take len).getD j 0 = zs.getD j 0 := fun j hj => by simp [List.getD, hj]
  refine ⟨by simp; omega, hl, hm, by simp, fun j hj => by rw [e j hj]; exact hb j (by omega), fun hp => ?_⟩
  obtain ⟨b, off, rfl, hc⟩ := ints_at hcell (by omega)
  refine ⟨b, off, rfl, fun j hj => ?_⟩
  rw [hc j (by omega), e j hj]
theorem in64_wf {n : Int} (h : (Lit.int .i64 n).wf = true) : in64 n := by
  simp [Lit.wf, IntKind.min, IntKind.max, IntKind.bits, IntKind.signed] at h
  unfold in64
  omega
set_option maxRecDepth 100000 in
theorem cells_ins : Try.prog.cellsOf 37 = 4 := by kernel_rfl
set_option maxRecDepth 100000 in
theorem cells_int1 : Try.prog.cellsOf 3 = 1 := by kernel_rfl
set_option maxRecDepth 100000 in
theorem cells_isl : Try.prog.cellsOf 38 = 1 := by kernel_rfl
section
variable {H : Type} {enc : TypeId × Value → H} {w : World} {base : Nat} {held : Bool}
theorem listOf {α : Type} {d : α} {n : Nat} {P : Nat → α → Prop} (h : ∀ i, i < n → ∃ x, P i x) : ∃ l : List α, l.length = n ∧ ∀ i, i < n → P i (l.getD i d) := by
  induction n with
  | zero => exact ⟨[], rfl, fun i hi => absurd hi (Nat.not_lt_zero _)⟩
  | succ n ih =>
    obtain ⟨l, hl, hall⟩ := ih (fun i hi => h i (by omega))
    obtain ⟨o, ho⟩ := h n (by omega)
    refine ⟨l ++ [o], by simp [hl], fun i hi => ?_⟩
    by_cases hi' : i < n
    · have e : (l ++ [o]).getD i d = l.getD i d := by simp [List.getD, List.getElem?_append_left (show i < l.length by omega)]
      rw [e]
      exact hall i hi'
    · obtain rfl : i = n := by omega
      have e : (l ++ [o]).getD i d = o := by simp [List.getD, ← hl]
      rw [e]
      exact ho
set_option maxRecDepth 100000 in
theorem open_ins {n : Nat} {cs : List Value} {y : DataW H × List MemPlace} (h : DataW.trod enc Try.prog w base (fun _ => true) held n 37 cs = some y) : ∃ x : Ins, cs = [.int .i64 x.op, .int .i64 x.a, .int .i64 x.b, .int .i64 x.c] ∧ in64 x.op ∧ in64 x.a ∧ in64 x.b ∧ in64 x.c := by
  obtain ⟨xs, m, _, hy, hl, hlen, hf⟩ := DataW.trod_struct Try.underlying37 h
  rw [cells_ins] at hl
  match cs, hl with
  | [c0, c1, c2, c3], _ =>
  match xs, hlen with
  | [y0, y1, y2, y3], _ =>
  have h0 := hf 0 _ rfl
  have h1 := hf 1 _ rfl
  have h2 := hf 2 _ rfl
  have h3 := hf 3 _ rfl
  obtain ⟨k0, e0, _, w0⟩ := DataW.trod_int Try.underlying3 h0
  obtain ⟨k1, e1, _, w1⟩ := DataW.trod_int Try.underlying3 h1
  obtain ⟨k2, e2, _, w2⟩ := DataW.trod_int Try.underlying3 h2
  obtain ⟨k3, e3, _, w3⟩ := DataW.trod_int Try.underlying3 h3
  simp [cells_int1] at e0 e1 e2 e3
  subst e0 e1 e2 e3
  exact ⟨⟨k0, k1, k2, k3⟩, rfl, in64_wf w0, in64_wf w1, in64_wf w2, in64_wf w3⟩
set_option maxRecDepth 100000 in
theorem open_ic {fuel : Nat} {cs : List Value} {x : DataW H × List MemPlace} (h : DataW.trod enc Try.prog w base (fun _ => true) held fuel 38 cs = some x) : ∃ a len cap l, cs = [.slice a len cap] ∧ IcAt w a len cap l := by
  rcases Go.Deep.open_slice Try.underlying38 h with ⟨h0, _⟩ | ⟨a, len, cap, m, n, D, Pl, rfl, hb, hl, hm, hmm, rfl, hx⟩
  · exact ⟨none, 0, 0, [], h0, rfl, Nat.le_refl _, Nat.zero_le _, fun _ => rfl, fun _ h => absurd h (Nat.not_lt_zero _), fun h => absurd h (Nat.lt_irrefl _)⟩
  have hlm : len ≤ m := by rw [hmm]; split <;> omega
  obtain ⟨l, hll, hall⟩ := listOf (d := ins0) (n := len) (P := fun i (c : Ins) => (∀ k v, [Value.int .i64 c.op, .int .i64 c.a, .int .i64 c.b, .int .i64 c.c][k]? = some v → w.cell? (a.add (i * 4 + k)) = some v) ∧ in64 c.op ∧ in64 c.a ∧ in64 c.b ∧ in64 c.c) (by
    intro i hi
    obtain ⟨cs', h1, h2⟩ := hx i (by omega)
    rw [cells_ins] at h1
    obtain ⟨_, _, hcell⟩ := World.cells?_some h1
    obtain ⟨c, rfl, hok⟩ := open_ins h2
    refine ⟨c, fun k v hv => ?_, hok⟩
    have hk : k < 4 := (List.getElem?_eq_some_iff.1 hv).1
    have := hcell k hk
    rw [Go.Deep.add_add] at this
    rw [this]
    exact hv)
  refine ⟨some a, len, cap, l, rfl, hll, hl, hm, by simp, fun j hj => (hall j hj).2, fun hp => ?_⟩
  obtain ⟨b, off, spot⟩ := a
  have h0 := (hall 0 hp).1 0 _ rfl
  have hspot : spot = none := by simpa [Addr.add] using World.cell?_spot h0
  subst hspot
  refine ⟨b, off, rfl, fun j hj => ?_⟩
  have p0 := (hall j hj).1 0 _ rfl
  have p1 := (hall j hj).1 1 _ rfl
  have p2 := (hall j hj).1 2 _ rfl
  have p3 := (hall j hj).1 3 _ rfl
  rw [Addr.add_lit] at p0 p1 p2 p3
  exact ⟨p0, p1, p2, p3⟩
set_option maxRecDepth 100000 in
theorem open_cd {fuel : Nat} {cs : List Value} {x : DataW H × List MemPlace} (h : DataW.trod enc Try.prog w base (fun _ => true) held fuel 23 cs = some x) : ∃ a len cap l, cs = [.slice a len cap] ∧ CdAt w a len cap l := by
  rcases Go.Deep.open_slice Try.underlying23 h with ⟨h0, _⟩ | ⟨a, len, cap, m, n, D, Pl, rfl, hb, hl, hm, hmm, rfl, hx⟩
  · exact ⟨none, 0, 0, [], h0, rfl, Nat.le_refl _, Nat.zero_le _, fun _ => rfl, fun h => absurd h (Nat.lt_irrefl _)⟩
  have hlm : len ≤ m := by rw [hmm]; split <;> omega
  obtain ⟨l, hll, hall⟩ := listOf (d := ([] : List Ins)) (n := len) (P := fun i c => ∃ aj cj, w.cell? (a.add i) = some (.slice aj c.length cj) ∧ IcAt w aj c.length cj c) (by
    intro i hi
    obtain ⟨cs', h1, h2⟩ := hx i (by omega)
    rw [cells_isl] at h1
    obtain ⟨_, _, hcell⟩ := World.cells?_some h1
    obtain ⟨aj, lj, cj, c, rfl, hI⟩ := open_ic h2
    have := hcell 0 (by omega)
    rw [Go.Deep.add_add] at this
    have e := hI.size
    subst e
    refine ⟨c, aj, cj, ?_, hI⟩
    simpa using this)
  refine ⟨some a, len, cap, l, rfl, hll, hl, hm, by simp, fun hp => ?_⟩
  obtain ⟨b, off, spot⟩ := a
  obtain ⟨_, _, h0, _⟩ := hall 0 hp
  have hspot : spot = none := by simpa [Addr.add] using World.cell?_spot h0
  subst hspot
  refine ⟨b, off, rfl, fun j hj => ?_⟩
  obtain ⟨aj, cj, h1, h2⟩ := hall j hj
  rw [Addr.add_lit] at h1
  exact ⟨aj, cj, h1, h2⟩
end
end Go.Proofs.Ytehkcgjiimfdjaa
