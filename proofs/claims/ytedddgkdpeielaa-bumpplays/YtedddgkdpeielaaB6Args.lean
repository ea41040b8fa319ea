/- Calls, lists of calls and lists of ints as arguments: what a reading of one gives. -/
import Derived.Test.YtedddgkdpeielaaArgs
import Derived.Test.YtedddgkdpeielaaOwn
import Derived.Test.YtedddgkdpeielaaBoxM
import Derived.Deep.Slices
import Derived.Deep.Strs
import Derived.ChangeSame
import Derived.SizedLaws
import Derived.WideShapes
namespace Go.Proofs.Ytedddgkdpeielaa
open Go.ChangeShapes Go.WideShapes Go.RowKit
theorem IsAt.ofInts {w : World} {x : Addr} {len cap : Nat} {zs : List Int} (hl : len ≤ cap) (hm : cap ≤ maxLen) (hz : zs.length = cap)
    (hcell : ∀ i, i < zs.length → w.cell? (x.add i) = some (.int .i64 (zs.getD i 0))) (hwz : ∀ n ∈ zs, (Lit.int .i64 n).wf = true) :
    IsAt w (some x) len cap (zs.take len) := by
  have hb : ∀ i, i < zs.length → -9223372036854775808 ≤ zs.getD i 0 ∧ zs.getD i 0 ≤ 9223372036854775807 := by
    intro i hi
    have hmem : zs.getD i 0 ∈ zs := by simp [List.getD, hi]
    have := hwz _ hmem
    simp [Lit.wf, IntKind.min, IntKind.max, IntKind.bits, IntKind.signed] at this
    have e : zs.getD i 0 = zs[i]?.getD 0 := by simp
    omega
  have e : ∀ j, j < len → (zs.take len).getD j 0 = zs.getD j 0 := fun j hj => by simp [List.getD, hj]
  refine ⟨by simp; omega, hl, hm, by simp, fun j hj => by rw [e j hj]; exact hb j (by omega), fun hp => ?_⟩
  obtain ⟨b, off, rfl, hc⟩ := ints_at hcell (by omega)
  refine ⟨b, off, rfl, fun j hj => ?_⟩
  rw [hc j (by omega), e j hj]
theorem in64_wf {n : Int} (h : (Lit.int .i64 n).wf = true) : in64 n := by
  simp [Lit.wf, IntKind.min, IntKind.max, IntKind.bits, IntKind.signed] at h
  unfold in64
  omega
/-- A call, as the law's struct holds it. -/
structure CallV where
  kind : Int
  pos : Int
  n : Int
  m : Int
  ba : Option Addr
  bl : Nat
  bc : Nat
  bs : List UInt8
def CallV.cells (c : CallV) : List Value := [.int .i64 c.kind, .int .i64 c.pos, .int .i64 c.n, .int .i64 c.m, .slice c.ba c.bl c.bc]
structure CallV.Ok (w : World) (c : CallV) : Prop where
  kind : in64 c.kind
  pos : in64 c.pos
  n : in64 c.n
  m : in64 c.m
  bytes : BsAt w c.ba c.bl c.bc c.bs
theorem CallV.Ok.below {B : Nat} {w w' : World} {c : CallV} (h : c.Ok w) (hB : w.heap.size ≤ B) (hb : Below B w w') : c.Ok w' := ⟨h.kind, h.pos, h.n, h.m, h.bytes.below hB hb⟩
set_option maxRecDepth 100000 in
theorem cells_call : Try.prog.cellsOf 34 = 5 := by kernel_rfl
set_option maxRecDepth 100000 in
theorem cells_cint : Try.prog.cellsOf 3 = 1 := by kernel_rfl
set_option maxRecDepth 100000 in
theorem cells_cbs : Try.prog.cellsOf 32 = 1 := by kernel_rfl
def call0 : CallV := ⟨0, 0, 0, 0, none, 0, 0, []⟩
structure CsAt (w : World) (a : Option Addr) (len cap : Nat) (l : List CallV) : Prop where
  size : l.length = len
  le : len ≤ cap
  max : cap ≤ maxLen
  bare : a = none → cap = 0
  ok : ∀ j, j < len → (l.getD j call0).Ok w ∧ (l.getD j call0).bc ≤ 140737488351232
  here : 0 < len → ∃ b off, a = some ⟨b, off, none⟩ ∧ ∀ j, j < len → ∀ m v, (l.getD j call0).cells[m]? = some v → w.cell? ⟨b, off + j * 5 + m, none⟩ = some v
theorem CsAt.below {B : Nat} {w w' : World} {a : Option Addr} {len cap : Nat} {l : List CallV} (h : CsAt w a len cap l) (hB : w.heap.size ≤ B) (hb : Below B w w') : CsAt w' a len cap l :=
  ⟨h.size, h.le, h.max, h.bare, fun j hj => ⟨(h.ok j hj).1.below hB hb, (h.ok j hj).2⟩, fun hp => by
    obtain ⟨b, off, ha, hc⟩ := h.here hp
    refine ⟨b, off, ha, fun j hj m v hv => ?_⟩
    have := hc j hj m v hv
    rw [hb.cell (Nat.lt_of_lt_of_le (World.block_lt_of_cell? w _ this) hB)]
    exact this⟩
theorem CsAt.upTo {w : World} {a : Option Addr} {len cap : Nat} {l : List CallV} (h : CsAt w a len cap l) (k : Nat) (hk : k ≤ len) : CsAt w a k cap (l.take k) := by
  have hs := h.size
  have e : ∀ j, j < k → (l.take k).getD j call0 = l.getD j call0 := fun j hj => by simp [List.getD, hj]
  refine ⟨by simp; omega, Nat.le_trans hk h.le, h.max, h.bare, fun j hj => by rw [e j hj]; exact h.ok j (by omega), fun hp => ?_⟩
  obtain ⟨b, off, ha, hc⟩ := h.here (by omega)
  refine ⟨b, off, ha, fun j hj m v hv => ?_⟩
  rw [e j hj] at hv
  exact hc j (by omega) m v hv
set_option maxRecDepth 100000 in
theorem weightsAll_mem {H : Type} {P : Program} {e : TypeId} {n : Nat} : ∀ {l : List (DataW H)} {d : DataW H}, d ∈ l → n ∈ d.weights P e → n ∈ DataW.weightsAll P e l
  | x :: r, d, hd, hn => by
    rw [DataW.weightsAll]
    rcases List.mem_cons.1 hd with rfl | hd
    · exact List.mem_append_left _ hn
    · exact List.mem_append_right _ (weightsAll_mem hd hn)
set_option maxRecDepth 100000 in
theorem bytes_u8 : Try.checked.prog.bytesOf 5 = 1 := by kernel_rfl
set_option maxRecDepth 100000 in
theorem bytes_u8' : Try.prog.bytesOf 5 = 1 := by kernel_rfl

section
variable {H : Type} {enc : TypeId × Value → H} {w : World} {base : Nat} {held : Bool}
set_option maxRecDepth 100000 in
/-- A slice of bytes, with its reading's size. -/
theorem open_bsW {fuel : Nat} {cs : List Value} {x : DataW H × List MemPlace} (h : DataW.trod enc Try.prog w base (fun _ => true) held fuel 32 cs = some x) : ∃ a len cap bs, cs = [.slice a len cap] ∧ BsAt w a len cap bs ∧ (cap = 0 ∨ cap ∈ x.1.weights Try.prog 32) := by
  rcases open_ints Try.underlying32 Try.underlying5 (by kernel_rfl) h with ⟨hcs, _⟩ | ⟨y, l, c, zs, hcs, _, hl, hm, hz, hx, hcell, hwz⟩
  · exact ⟨none, 0, 0, [], hcs, BsAt.nil w, .inl rfl⟩
  · refine ⟨some y, l, c, _, hcs, BsAt.ofInts hl hm (by simpa using hz) hcell hwz, .inr ?_⟩
    have e : x.1 = .slice (lits IntKind.u8 (zs.take l)) (lits IntKind.u8 (zs.drop l)) := by rw [hx]
    rw [e]
    simp only [DataW.weights, Try.underlying32, bytes_u8']
    refine List.mem_cons.2 (.inl ?_)
    simp [lits] at hz ⊢
    omega
set_option maxRecDepth 100000 in
theorem open_callW {n : Nat} {cs : List Value} {y : DataW H × List MemPlace} (h : DataW.trod enc Try.prog w base (fun _ => true) held n 34 cs = some y) : ∃ c : CallV, cs = c.cells ∧ c.Ok w ∧ (c.bc = 0 ∨ c.bc ∈ y.1.weights Try.prog 34) := by
  obtain ⟨xs, m, _, hy, hl, hlen, hf⟩ := DataW.trod_struct Try.underlying34 h
  rw [cells_call] at hl
  match cs, hl with
  | [c0, c1, c2, c3, c4], _ =>
  match xs, hlen with
  | [y0, y1, y2, y3, y4], _ =>
  have h0 := hf 0 _ rfl
  have h1 := hf 1 _ rfl
  have h2 := hf 2 _ rfl
  have h3 := hf 3 _ rfl
  have h4 := hf 4 _ rfl
  obtain ⟨k, e0, _, wk⟩ := DataW.trod_int Try.underlying3 h0
  obtain ⟨k1, e1, _, w1⟩ := DataW.trod_int Try.underlying3 h1
  obtain ⟨k2, e2, _, w2⟩ := DataW.trod_int Try.underlying3 h2
  obtain ⟨k3, e3, _, w3⟩ := DataW.trod_int Try.underlying3 h3
  obtain ⟨a4, l4, k4, b4, e4, w4, z4⟩ := open_bsW h4
  simp [cells_cint, cells_cbs] at e0 e1 e2 e3 e4
  subst e0 e1 e2 e3 e4
  refine ⟨⟨k, k1, k2, k3, a4, l4, k4, b4⟩, rfl, ⟨in64_wf wk, in64_wf w1, in64_wf w2, in64_wf w3, w4⟩, z4.imp id fun hz => ?_⟩
  have ey : y.1 = .agg [y0.1, y1.1, y2.1, y3.1, y4.1] := by rw [hy]; simp
  rw [ey]
  simp only [DataW.weights, Try.underlying34]
  exact DataW.weights_mem_each (j := 4) (t := 32) (d := y4.1) rfl rfl _ hz
set_option maxRecDepth 100000 in
theorem open_call {r : Reach} {b0 : Nat} {v : Value} {d : DataW H} {ps : List MemPlace} (hval : Value.okWide Try.prog w r b0 34 v) (hd : DataW.Trod enc Try.prog w base (fun _ => true) held 34 v d ps) :
    ∃ c : CallV, v = .agg c.cells.toArray ∧ c.Ok w := by
  obtain ⟨cs, rfl, hsz⟩ := okWide_struct Try.underlying34 hval
  obtain ⟨fuel, hf⟩ := hd
  obtain ⟨c, hc, hok, _⟩ := open_callW hf
  refine ⟨c, ?_, hok⟩
  have : cs.toList = c.cells := by simpa [Value.cells] using hc
  rw [← this]
set_option maxRecDepth 100000 in
theorem open_calls {fuel : Nat} {cs : List Value} {x : DataW H × List MemPlace} (h : DataW.trod enc Try.prog w base (fun _ => true) held fuel 23 cs = some x) (hw : ∀ n ∈ x.1.weights Try.prog 23, n ≤ 140737488351232) :
    ∃ a len cap l, cs = [.slice a len cap] ∧ CsAt w a len cap l := by
  rcases Go.Deep.open_slice Try.underlying23 h with ⟨h0, _⟩ | ⟨a, len, cap, m, n, D, Pl, rfl, hb, hl, hm, hmm, rfl, hx⟩
  · exact ⟨none, 0, 0, [], h0, rfl, Nat.le_refl _, Nat.zero_le _, fun _ => rfl, fun _ h => absurd h (Nat.not_lt_zero _), fun h => absurd h (Nat.lt_irrefl _)⟩
  have hlm : len ≤ m := by rw [hmm]; split <;> omega
  have each : ∀ i, i < len → ∃ c : CallV, (∀ k v, c.cells[k]? = some v → w.cell? (a.add (i * 5 + k)) = some v) ∧ c.Ok w ∧ c.bc ≤ 140737488351232 := by
    intro i hi
    obtain ⟨cs', h1, h2⟩ := hx i (by omega)
    rw [cells_call] at h1
    obtain ⟨_, _, hcell⟩ := World.cells?_some h1
    obtain ⟨c, rfl, hok, hz⟩ := open_callW h2
    refine ⟨c, fun k v hv => ?_, hok, ?_⟩
    · have hk : k < 5 := (List.getElem?_eq_some_iff.1 hv).1
      have := hcell k hk
      rw [Go.Deep.add_add] at this
      rw [this]
      exact hv
    · rcases hz with hz | hz
      · omega
      · refine hw _ ?_
        simp only [DataW.weights, Try.underlying23]
        exact List.mem_cons_of_mem _ (List.mem_append_left _ (weightsAll_mem (List.mem_map.2 ⟨i, List.mem_range.2 hi, rfl⟩) hz))
  have hlist : ∃ l : List CallV, l.length = len ∧ ∀ i, i < len → (∀ k v, (l.getD i call0).cells[k]? = some v → w.cell? (a.add (i * 5 + k)) = some v) ∧ (l.getD i call0).Ok w ∧ (l.getD i call0).bc ≤ 140737488351232 := by
    clear hl hm hlm hmm hb hx h hw
    induction len with
    | zero => exact ⟨[], rfl, fun i hi => absurd hi (Nat.not_lt_zero _)⟩
    | succ len ih =>
      obtain ⟨l, hl, hall⟩ := ih (fun i hi => each i (by omega))
      obtain ⟨o, ho⟩ := each len (by omega)
      refine ⟨l ++ [o], by simp [hl], fun i hi => ?_⟩
      by_cases hi' : i < len
      · have e : (l ++ [o]).getD i call0 = l.getD i call0 := by simp [List.getD, List.getElem?_append_left (show i < l.length by omega)]
        rw [e]
        exact hall i hi'
      · obtain rfl : i = len := by omega
        have e : (l ++ [o]).getD i call0 = o := by simp [List.getD, ← hl]
        rw [e]
        exact ho
  obtain ⟨l, hll, hall⟩ := hlist
  refine ⟨some a, len, cap, l, rfl, hll, hl, hm, by simp, fun j hj => (hall j hj).2, fun hp => ?_⟩
  obtain ⟨b, off, spot⟩ := a
  have h0 := (hall 0 hp).1 0 _ rfl
  have hspot : spot = none := by simpa [Addr.add] using World.cell?_spot h0
  subst hspot
  refine ⟨b, off, rfl, fun j hj k v hv => ?_⟩
  have := (hall j hj).1 k v hv
  rw [add_plain] at this
  rw [Nat.add_assoc]
  exact this
end
end Go.Proofs.Ytedddgkdpeielaa
