/- The map of what was put, by keys that are structs. -/
import Derived.Test.YtnggajconglfcaaDoorPdPlain
import Derived.Test.YtnggajconglfcaaDoorPdMem
import Derived.Maps.OwnSet
import Derived.Maps.Views
import Derived.DeepKeys3
namespace Go.Proofs.YtnggajconglfcaaDoor
open Go.RowKit
set_option linter.unusedVariables false
set_option linter.unusedSimpArgs false
abbrev TK : TypeId := 32
abbrev TV : TypeId := 60
abbrev TMp : TypeId := 56
theorem wideK : (match Tryd.prog.underlying TK with | some (.array _ _) | some (.struct _) => true | _ => false) = true := by
  rw [Tryd.underlying32]
set_option maxRecDepth 100000 in
theorem lawK : Maps.Keyed Tryd.prog TK := Maps.Keyed.of_law (deep_law (m := 3) (by omega) (by kernel_rfl) (by kernel_rfl) wideK)
def IK.lit (k : IK) : Lit := .string (keyBytes [.string k.user.data.toList, .int .u64 (k.seq : Int), .int .i64 k.kind])
structure IK.Wf (k : IK) : Prop where
  user : k.user.size ≤ maxLen
  seq : (Lit.int .u64 (k.seq : Int)).wf = true
  kind : (Lit.int .i64 k.kind).wf = true
theorem keyTypeK : Tryd.prog.keyType TK = true := by kernel_rfl
theorem typesSize : ∃ m, Tryd.prog.types.size = m + 1 := ⟨_, (by kernel_rfl : Tryd.prog.types.size = Tryd.prog.types.size - 1 + 1)⟩
theorem cellsK : Tryd.prog.cellsOf TK = 3 := by kernel_rfl
theorem cellsSt : Tryd.prog.cellsOf 9 = 1 := by kernel_rfl
theorem cellsU : Tryd.prog.cellsOf 30 = 1 := by kernel_rfl
theorem cellsI : Tryd.prog.cellsOf 3 = 1 := by kernel_rfl
theorem keyOf_ik {k : IK} (h : k.Wf) : keyOf Tryd.prog TK k.v = some k.lit := by
  obtain ⟨h1, h2, h3⟩ := h
  obtain ⟨m, hm⟩ := typesSize
  unfold keyOf IK.v IK.lit
  rw [Tryd.underlying32]
  simp only [keyTypeK, Value.formed, Tryd.underlying32, cellsK, Value.cells, hm]
  simp only [Program.keyLits, Tryd.underlying32, cellsK]
  simp [cellsSt, cellsU, cellsI, Tryd.underlying9, Tryd.underlying30, Tryd.underlying3, h1, h2, h3]
theorem lit_inj {a b : IK} (ha : a.Wf) (hb : b.Wf) (h : a.lit = b.lit) : a = b := by
  have h1 := keyOf_ik ha
  have h2 := keyOf_ik hb
  rw [h] at h1
  have := lawK.inj h1 h2
  unfold IK.v at this
  obtain ⟨u, q, t⟩ := a
  obtain ⟨u', q', t'⟩ := b
  simp at this
  obtain ⟨rfl, e2, rfl⟩ := this
  obtain rfl : q = q' := by omega
  rfl
theorem lit_key (k : IK) : WideAt.IsKeyLit k.lit := trivial
/-- How what was put reads. -/
def strElem : Value → Option (DataW Unit × List MemPlace)
  | .agg cs => match cs.toList with
    | [.string s] => some (.agg [.lit (.string s.data.toList)], [])
    | _ => none
  | _ => none
theorem strElem_mk (s : ByteArray) : strElem (.agg #[.string s]) = some (.agg [.lit (.string s.data.toList)], []) := rfl
theorem strElem_inv {v : Value} {z : DataW Unit × List MemPlace} (h : strElem v = some z) : ∃ s : ByteArray, v = .agg #[.string s] ∧ z = (.agg [.lit (.string s.data.toList)], []) := by
  unfold strElem at h
  split at h
  · rename_i cs
    split at h
    · rename_i s hs
      refine ⟨s, ?_, (Option.some.inj h).symm⟩
      congr 1
      exact Array.ext' hs
    · cases h
  · cases h
theorem zeroV (w : World) : (zeroValue TV).run Tryd.prog w = .ok (.agg #[.string ⟨#[]⟩]) w := by kernel_rfl
structure MpAt (w : World) (b : Nat) (l : List KV) : Prop where
  is : ∃ D : DataW Unit, w.ownsMap Tryd.prog TK strElem b l.length D ∧ Maps.size D = l.length ∧ (∀ k : IK, k.Wf → (Maps.has D k.lit = true ↔ ∃ v, (k, v) ∈ l)) ∧ ∀ e ∈ l, ∀ z, D.atKey e.1.lit z = .agg [.lit (.string e.2.data.toList)]
def MOpt (w : World) : Option Nat → List KV → Prop
  | none, l => l = []
  | some b, l => MpAt w b l
section
variable {w w' : World} {b : Nat} {l : List KV} {m : Option Nat}
theorem ownsMap_kept {n : Nat} {D : DataW Unit} (h : w.ownsMap Tryd.prog TK strElem b n D) (hk : w'.heap[b]? = w.heap[b]?) : w'.ownsMap Tryd.prog TK strElem b n D := by
  obtain ⟨es, clock, hb, F, hs, hD⟩ := h
  exact ⟨es, clock, hk.trans hb, F, hs, hD⟩
theorem MpAt.kept (h : MpAt w b l) (hk : w'.heap[b]? = w.heap[b]?) : MpAt w' b l := by
  obtain ⟨D, h1, h2⟩ := h.is
  exact ⟨D, ownsMap_kept h1 hk, h2⟩
theorem MpAt.tag (h : MpAt w b l) : tag w b = some 1000 := by
  obtain ⟨D, ⟨es, clock, hb, _⟩, _⟩ := h.is
  simp [Go.Proofs.YtnggajconglfcaaDoor.tag, hb, tagOf]
theorem MOpt.kept (h : MOpt w m l) (hk : ∀ b, m = some b → w'.heap[b]? = w.heap[b]?) : MOpt w' m l := by
  cases m with
  | none => exact h
  | some b => exact MpAt.kept h (hk b rfl)
theorem MpAt.look (h : MpAt w b l) {k : IK} (hw : k.Wf) : ∃ (x : ByteArray) (c : Bool), (c = true ↔ ∃ v, (k, v) ∈ l) ∧ (Instr.lookup TMp (.map (some b)) k.v true).run Tryd.prog w = .ok (.tuple #[.agg #[.string x], .bool c]) w := by
  obtain ⟨D, h1, h2, h3, h4⟩ := h.is
  obtain ⟨v, ps, hr, hv⟩ := h1.look_ok lawK Tryd.underlying56 (zeroV w) (strElem_mk _) (keyOf_ik hw)
  obtain ⟨s, rfl, _⟩ := strElem_inv hv
  exact ⟨s, _, h3 k hw, hr⟩
theorem MOpt.look (h : MOpt w m l) {k : IK} (hw : k.Wf) : ∃ (x : ByteArray) (c : Bool), (c = true ↔ ∃ v, (k, v) ∈ l) ∧ (Instr.lookup TMp (.map m) k.v true).run Tryd.prog w = .ok (.tuple #[.agg #[.string x], .bool c]) w := by
  cases m with
  | none =>
    have e : l = [] := h
    subst e
    exact ⟨_, false, by simp, Maps.look_nil true lawK Tryd.underlying56 (zeroV w) (keyOf_ik hw)⟩
  | some b => exact MpAt.look h hw
theorem MOpt.lookAll (h : MOpt w m l) {k : IK} (hw : k.Wf) : ∃ (x : ByteArray) (c : Bool), (c = true ↔ ∃ v, (k, v) ∈ l) ∧ ∀ W : World, (∀ b, m = some b → W.heap[b]? = w.heap[b]?) → (Instr.lookup TMp (.map m) k.v true).run Tryd.prog W = .ok (.tuple #[.agg #[.string x], .bool c]) W := by
  cases m with
  | none =>
    have e : l = [] := h
    subst e
    exact ⟨_, false, by simp, fun W _ => Maps.look_nil true lawK Tryd.underlying56 (zeroV W) (keyOf_ik hw)⟩
  | some b =>
    obtain ⟨D, h1, h2, h3, h4⟩ := h.is
    obtain ⟨v, ps, hr, hv⟩ := h1.look_ok lawK Tryd.underlying56 (zeroV w) (strElem_mk _) (keyOf_ik hw)
    obtain ⟨s, rfl, hz⟩ := strElem_inv hv
    refine ⟨s, _, h3 k hw, fun W hW => ?_⟩
    obtain ⟨v', ps', hr', hv'⟩ := (ownsMap_kept h1 (hW b rfl)).look_ok lawK Tryd.underlying56 (zeroV W) (strElem_mk _) (keyOf_ik hw)
    obtain ⟨s', rfl, hz'⟩ := strElem_inv hv'
    have hs : s = s' := by
      simp only [Prod.mk.injEq] at hz hz'
      have h5 := hz.1.symm.trans hz'.1
      simp at h5
      apply ba_ext
      rw [h5]
    rw [hs]
    exact hr'
theorem MOpt.get (h : MOpt w m l) {e : KV} (he : e ∈ l) (hw : e.1.Wf) : (Instr.lookup TMp (.map m) e.1.v false).run Tryd.prog w = .ok (.agg #[.string e.2]) w := by
  cases m with
  | none =>
    have e : l = [] := h
    subst e
    simp at he
  | some b =>
    obtain ⟨D, h1, h2, h3, h4⟩ := h.is
    obtain ⟨v, ps, hr, hv⟩ := h1.lookup lawK Tryd.underlying56 (zeroV w) (strElem_mk _) (keyOf_ik hw)
    obtain ⟨s, rfl, hz⟩ := strElem_inv hv
    rw [h4 e he] at hz
    simp at hz
    have hs : e.2 = s := by
      apply ba_ext
      rw [hz.1]
    rw [hs]
    exact hr
theorem MOpt.len (h : MOpt w m l) (ty : TypeId) : (Builtin.len_ #[TMp] ty #[.map m]).run Tryd.prog w = .ok (.int .i64 (l.length : Int)) w := by
  cases m with
  | none =>
    have e : l = [] := h
    subst e
    exact Maps.len_nil Tryd.underlying56 ty
  | some b =>
    obtain ⟨D, h1, h2, h3, h4⟩ := h.is
    have := h1.len Tryd.underlying56 ty
    rw [h2] at this
    exact this
theorem MpAt.store (h : MpAt w b l) {k : IK} {v : ByteArray} (hw : k.Wf) (hl : ∀ e ∈ l, e.1.Wf) (hnew : ¬ ∃ u, (k, u) ∈ l) (hn : l.length < maxLen) : ∃ w', (Instr.mapUpdate TMp (.map (some b)) k.v (.agg #[.string v])).run Tryd.prog w = .ok () w' ∧ MpAt w' b (insKV (k, v) l) ∧ w.mapTurned w' b := by
  obtain ⟨D, h1, h2, h3, h4⟩ := h.is
  obtain ⟨w', hr, ho, ht⟩ := h1.store lawK Tryd.underlying56 hn (keyOf_ik hw) (strElem_mk v)
  refine ⟨w', hr, ⟨⟨_, by rw [insKV_len]; exact ho, ?_, fun k' hk' => ?_, fun e he z => ?_⟩⟩, ht⟩
  · have hf : Maps.has D k.lit = false := by
      cases hh : Maps.has D k.lit with
      | false => rfl
      | true => exact absurd ((h3 k hw).1 hh) hnew
    rw [Maps.size_put (h1.tidy lawK), hf, insKV_len, h2]
    rfl
  · by_cases e : k' = k
    · subst e
      rw [Maps.has_put_same h1.isMap (lit_key _)]
      exact ⟨fun _ => ⟨v, mem_insKV.2 (.inl rfl)⟩, fun _ => rfl⟩
    · have hne : k'.lit ≠ k.lit := fun hc => e (lit_inj hk' hw hc)
      rw [Maps.has_put_other hne, h3 k' hk']
      constructor
      · rintro ⟨u, hu⟩
        exact ⟨u, mem_insKV.2 (.inr hu)⟩
      · rintro ⟨u, hu⟩
        rcases mem_insKV.1 hu with hc | hc
        · simp only [Prod.mk.injEq] at hc
          exact absurd hc.1 e
        · exact ⟨u, hc⟩
  · rcases mem_insKV.1 he with rfl | he
    · exact Maps.atKey_put_same h1.isMap (lit_key _) _ _
    · have hne : e.1.lit ≠ k.lit := fun hc => by
        have := lit_inj (hl e he) hw hc
        exact hnew ⟨e.2, by rw [← this]; exact he⟩
      rw [Maps.atKey_put_other hne]
      exact h4 e he z
theorem MpAt.made (w : World) : MpAt (w.alloc (.map #[] 0)) w.heap.size [] := by
  refine ⟨⟨.map [], World.ownsMap_made w Tryd.prog TK strElem, rfl, fun k _ => ?_, fun e he => absurd he (by simp)⟩⟩
  simp [Maps.has]
end
end Go.Proofs.YtnggajconglfcaaDoor
