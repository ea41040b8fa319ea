/- Keys with values, calls and lists of them as arguments: what a reading of one gives. -/
import Derived.Test.YtnggajconglfcaaDoorArgs
import Derived.Test.YtnggajconglfcaaDoorM8Ent
import Derived.Deep.Slices
import Derived.Deep.Strs
import Derived.ChangeSame
import Derived.SizedLaws
import Derived.WideShapes
namespace Go.Proofs.YtnggajconglfcaaDoor
open Go.ChangeShapes Go.WideShapes Go.RowKit
set_option linter.unusedVariables false
set_option linter.unusedSimpArgs false
theorem collect {α : Type} (P : Nat → α → Prop) : ∀ len : Nat, (∀ i, i < len → ∃ o, P i o) → ∃ l : List α, l.length = len ∧ ∀ i (hi : i < l.length), P i l[i]
  | 0, _ => ⟨[], rfl, fun i hi => absurd hi (Nat.not_lt_zero _)⟩
  | len + 1, h => by
    obtain ⟨l, hl, hall⟩ := collect P len fun i hi => h i (by omega)
    obtain ⟨o, ho⟩ := h len (by omega)
    refine ⟨l ++ [o], by simp [hl], fun i hi => ?_⟩
    by_cases hi' : i < l.length
    · rw [List.getElem_append_left hi']
      exact hall i hi'
    · have e : i = l.length := by simp at hi; omega
      subst e
      rw [List.getElem_append_right (Nat.le_refl _)]
      simp only [Nat.sub_self, List.getElem_cons_zero]
      rw [hl]
      exact ho
theorem KsAt.nil (w : World) : KsAt w none 0 0 [] := ⟨rfl, Nat.le_refl _, Nat.zero_le _, fun h => absurd h (Nat.lt_irrefl _)⟩
theorem cells_kv : Tryd.prog.cellsOf TKV = 4 := by kernel_rfl
theorem cells_cl : Tryd.prog.cellsOf 34 = 5 := by kernel_rfl
/-- An entry that came in. -/
structure RawOk (e : KV) : Prop where
  key : e.1.Wf
  val : e.2.size ≤ 9223372036854775807
structure CallV where
  kind : Int
  k : IK
  v : ByteArray
def CallV.cells (c : CallV) : List Value := [.int .i64 c.kind, .string c.k.user, .int .u64 (c.k.seq : Int), .int .i64 c.k.kind, .string c.v]
structure CsAt (w : World) (a : Option Addr) (n c : Nat) (l : List CallV) : Prop where
  size : l.length = n
  le : n ≤ c
  max : c ≤ maxLen
  here : 0 < n → ∃ b off, a = some ⟨b, off, none⟩ ∧ ∀ i (hi : i < l.length) r, r < 5 → w.cell? ⟨b, off + (i * 5 + r), none⟩ = l[i].cells[r]?
theorem CsAt.below {w w' : World} {a : Option Addr} {n c : Nat} {l : List CallV} (h : CsAt w a n c l) (hb : Below w.heap.size w w') : CsAt w' a n c l := ⟨h.size, h.le, h.max, fun hp => by
  obtain ⟨b, off, ha, hc⟩ := h.here hp
  have hs := h.size
  have h0 := hc 0 (by omega) 0 (by omega)
  have hb0 : b < w.heap.size := World.block_lt_of_cell? w _ (h0.trans rfl)
  exact ⟨b, off, ha, fun i hi r hr => by rw [hb.cell hb0]; exact hc i hi r hr⟩⟩
theorem CsAt.nil (w : World) : CsAt w none 0 0 [] := ⟨rfl, Nat.le_refl _, Nat.zero_le _, fun h => absurd h (Nat.lt_irrefl _)⟩
section
variable {H : Type} {enc : TypeId × Value → H} {w : World} {base : Nat} {sp : Nat → Bool} {held : Bool}
set_option maxRecDepth 100000 in
theorem open_ik {n : Nat} {cs : List Value} {y : DataW H × List MemPlace} (h : DataW.trod enc Tryd.prog w base sp held n TK cs = some y) :
    ∃ k : IK, cs = [.string k.user, .int .u64 (k.seq : Int), .int .i64 k.kind] ∧ k.Wf ∧ y.1 = .agg [.lit (.string k.user.data.toList), .lit (.int .u64 (k.seq : Int)), .lit (.int .i64 k.kind)] := by
  obtain ⟨y0, y1, y2, m, rfl, hl, h0, h1, h2⟩ := Go.Deep.trod_struct3 Tryd.underlying32 h
  rw [cellsK] at hl
  match cs, hl with
  | [c0, c1, c2], _ =>
  obtain ⟨s, e0, rfl, ws⟩ := DataW.trod_string Tryd.underlying9 h0
  obtain ⟨q, e1, rfl, wq⟩ := DataW.trod_int Tryd.underlying30 h1
  obtain ⟨k, e2, rfl, wk⟩ := DataW.trod_int Tryd.underlying3 h2
  simp [cellsSt, cellsU, cellsI] at e0 e1 e2
  subst e0 e1 e2
  have hq : q = ((q.toNat : Nat) : Int) := by
    simp [Lit.wf, IntKind.min, IntKind.max, IntKind.bits, IntKind.signed] at wq
    omega
  refine ⟨⟨s, q.toNat, k⟩, by rw [← hq], ⟨ws, by rw [← hq]; exact wq, wk⟩, by rw [← hq]⟩
set_option maxRecDepth 100000 in
theorem open_kv {n : Nat} {cs : List Value} {y : DataW H × List MemPlace} (h : DataW.trod enc Tryd.prog w base sp held n TKV cs = some y) :
    ∃ e : KV, cs = kvc e ∧ RawOk e := by
  obtain ⟨y0, y1, m, _, hl, h0, h1⟩ := trod_struct2 Tryd.underlying45 h
  rw [cells_kv] at hl
  match cs, hl with
  | [c0, c1, c2, c3], _ =>
  simp [cellsK, cellsSt] at h0 h1
  obtain ⟨k, e0, hk, _⟩ := open_ik h0
  obtain ⟨s, e1, _, ws⟩ := DataW.trod_string Tryd.underlying9 h1
  simp at e0 e1
  obtain ⟨rfl, rfl, rfl⟩ := e0
  subst e1
  unfold maxLen at ws
  exact ⟨(k, s), rfl, hk, by omega⟩
theorem open_kvs {fuel : Nat} {cs : List Value} {x : DataW H × List MemPlace} (h : DataW.trod enc Tryd.prog w base sp held fuel 27 cs = some x) :
    ∃ (a : Option Addr) (len cap : Nat) (l : List KV), cs = [.slice a len cap] ∧ KsAt w a len cap l ∧ (∀ e ∈ l, RawOk e) ∧ (x.1 = .nil ∧ len = 0 ∨ ∃ es ss, x.1 = .slice es ss ∧ es.length = len) := by
  rcases Go.Deep.open_slice Tryd.underlying27 h with ⟨h0, rfl⟩ | ⟨a, len, cap, m, n, D, Pl, rfl, hb, hl, hm, hmm, rfl, hx⟩
  · exact ⟨none, 0, 0, [], h0, KsAt.nil w, by simp, .inl ⟨rfl, rfl⟩⟩
  have hlm : len ≤ m := by rw [hmm]; split <;> omega
  obtain ⟨l, hll, hall⟩ := collect (fun i (e : KV) => (∀ r, r < 4 → w.cell? (a.add (i * 4 + r)) = (kvc e)[r]?) ∧ RawOk e) len (fun i hi => by
    obtain ⟨cs', h1, h2⟩ := hx i (by omega)
    have h1' : w.cells? base (a.add (i * 4)) 4 = some cs' := by
      rw [show Tryd.prog.cellsOf 45 = 4 from cells_kv] at h1
      exact h1
    obtain ⟨_, _, hcell⟩ := World.cells?_some h1'
    obtain ⟨e, rfl, he⟩ := open_kv h2
    refine ⟨e, fun r hr => ?_, he⟩
    have e0 := hcell r hr
    rw [Go.Deep.add_add] at e0
    rw [e0])
  refine ⟨some a, len, cap, l, rfl, ⟨hll, hl, hm, fun hp => ?_⟩, fun e he => ?_, .inr ⟨_, _, rfl, by simp⟩⟩
  · obtain ⟨b, off, spot⟩ := a
    have h0 := (hall 0 (by omega)).1 0 (by omega)
    have hspot : spot = none := by
      have : w.cell? ((⟨b, off, spot⟩ : Addr).add (0 * 4 + 0)) = some (.string (l[0]'(by omega)).1.user) := h0
      simpa [Addr.add] using World.cell?_spot this
    subst hspot
    refine ⟨b, off, rfl, fun j hj => ?_⟩
    have hd : j / 4 < l.length := by omega
    have hg := (hall (j / 4) hd).1 (j % 4) (by omega)
    rw [Addr.add_lit, show j / 4 * 4 + j % 4 = j by omega] at hg
    rw [hg, ← cellsKV_get l (j / 4) (j % 4) hd (by omega), show j / 4 * 4 + j % 4 = j by omega]
  · obtain ⟨i, hi, rfl⟩ := List.mem_iff_getElem.1 he
    exact (hall i hi).2
set_option maxRecDepth 100000 in
theorem open_cl {n : Nat} {cs : List Value} {y : DataW H × List MemPlace} (h : DataW.trod enc Tryd.prog w base sp held n 34 cs = some y) :
    ∃ c : CallV, cs = c.cells ∧ c.k.Wf ∧ c.v.size ≤ 9223372036854775807 ∧ c.k.user.size ≤ Rows.uptoBulk y.1 := by
  obtain ⟨y0, y1, y2, m, rfl, hl, h0, h1, h2⟩ := Go.Deep.trod_struct3 Tryd.underlying34 h
  rw [cells_cl] at hl
  match cs, hl with
  | [c0, c1, c2, c3, c4], _ =>
  simp [cellsK, cellsSt, cellsI] at h0 h1 h2
  obtain ⟨kd, e0, _, wk⟩ := DataW.trod_int Tryd.underlying3 h0
  obtain ⟨k, e1, hk, hd⟩ := open_ik h1
  obtain ⟨s, e2, _, ws⟩ := DataW.trod_string Tryd.underlying9 h2
  simp at e0 e1 e2
  obtain ⟨rfl, rfl, rfl⟩ := e1
  subst e0 e2
  unfold maxLen at ws
  refine ⟨⟨kd, k, s⟩, rfl, hk, by omega, ?_⟩
  simp only [hd, Rows.uptoBulk, Rows.uptoBulkAll, Array.length_toList]
  show k.user.data.size ≤ _
  omega
theorem bulk_mem {l : List (DataW H)} {d : DataW H} (h : d ∈ l) : Rows.uptoBulk d ≤ Rows.uptoBulkAll l := by
  induction l with
  | nil => simp at h
  | cons x r ih =>
    simp only [Rows.uptoBulkAll]
    rcases List.mem_cons.1 h with rfl | h
    · omega
    · have := ih h
      omega
theorem open_cls {fuel : Nat} {cs : List Value} {x : DataW H × List MemPlace} (h : DataW.trod enc Tryd.prog w base sp held fuel 23 cs = some x) :
    ∃ (a : Option Addr) (len cap : Nat) (l : List CallV), cs = [.slice a len cap] ∧ CsAt w a len cap l ∧ (∀ c ∈ l, c.k.Wf ∧ c.v.size ≤ 9223372036854775807 ∧ c.k.user.size ≤ Rows.uptoBulk x.1) := by
  rcases Go.Deep.open_slice Tryd.underlying23 h with ⟨h0, rfl⟩ | ⟨a, len, cap, m, n, D, Pl, rfl, hb, hl, hm, hmm, rfl, hx⟩
  · exact ⟨none, 0, 0, [], h0, CsAt.nil w, by simp⟩
  have hlm : len ≤ m := by rw [hmm]; split <;> omega
  obtain ⟨l, hll, hall⟩ := collect (fun i (e : CallV) => (∀ r, r < 5 → w.cell? (a.add (i * 5 + r)) = e.cells[r]?) ∧ (e.k.Wf ∧ e.v.size ≤ 9223372036854775807 ∧ e.k.user.size ≤ Rows.uptoBulk (DataW.slice ((List.range len).map D) ((List.range (m - len)).map fun j => D (len + j))))) len (fun i hi => by
    obtain ⟨cs', h1, h2⟩ := hx i (by omega)
    rw [cells_cl] at h1
    obtain ⟨_, _, hcell⟩ := World.cells?_some h1
    obtain ⟨e, rfl, he1, he2, he3⟩ := open_cl h2
    refine ⟨e, fun r hr => ?_, he1, he2, ?_⟩
    · have e0 := hcell r hr
      rw [Go.Deep.add_add] at e0
      rw [e0]
    · have hm := bulk_mem (l := (List.range len).map D) (d := D i) (List.mem_map.2 ⟨i, by simpa using hi, rfl⟩)
      simp only [Rows.uptoBulk]
      have : Rows.uptoBulk (D i, Pl i).1 = Rows.uptoBulk (D i) := rfl
      omega)
  refine ⟨some a, len, cap, l, rfl, ⟨hll, hl, hm, fun hp => ?_⟩, fun e he => ?_⟩
  · obtain ⟨b, off, spot⟩ := a
    have h0 := (hall 0 (by omega)).1 0 (by omega)
    have hspot : spot = none := by
      have : w.cell? ((⟨b, off, spot⟩ : Addr).add (0 * 5 + 0)) = some (.int .i64 (l[0]'(by omega)).kind) := h0
      simpa [Addr.add] using World.cell?_spot this
    subst hspot
    refine ⟨b, off, rfl, fun i hi r hr => ?_⟩
    have hg := (hall i hi).1 r hr
    rw [Addr.add_lit] at hg
    exact hg
  · obtain ⟨i, hi, rfl⟩ := List.mem_iff_getElem.1 he
    exact (hall i hi).2
end
end Go.Proofs.YtnggajconglfcaaDoor
