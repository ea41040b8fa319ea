/- The map of levels by numbers, in memory. -/
import Derived.Test.YtcdfgcjecmpjhaaU14Row
import Derived.Maps.OwnSet
import Derived.Maps.Views
namespace Go.Proofs.Ytcdfgcjecmpjhaa
open Go.RowKit
set_option linter.unusedVariables false
set_option linter.unusedSimpArgs false
abbrev TM : TypeId := 57
def intElem : Value → Option (DataW Unit × List MemPlace)
  | .int .i64 n => some (.lit (.int .i64 n), [])
  | _ => none
theorem intElem_inv {v : Value} {z : DataW Unit × List MemPlace} (h : intElem v = some z) : ∃ n : Int, v = .int .i64 n ∧ z = (.lit (.int .i64 n), []) := by
  unfold intElem at h
  split at h
  · exact ⟨_, rfl, (Option.some.inj h).symm⟩
  · cases h
theorem lawU : Maps.Keyed Try.prog TU := Maps.int_keyed Try.underlying33
abbrev litU (q : Nat) : Lit := .int .u64 (q : Int)
def WfU (q : Nat) : Prop := q < 18446744073709551616
theorem keyU {q : Nat} (h : WfU q) : keyOf Try.prog TU (.int .u64 (q : Int)) = some (litU q) := by
  refine Maps.keyOf_int_mk Try.underlying33 ?_
  unfold WfU at h
  simp [Lit.wf, IntKind.min, IntKind.max, IntKind.signed, IntKind.bits]
  omega
theorem litU_ne {p q : Nat} (h : p ≠ q) : litU p ≠ litU q := fun e => h (by simp at e; omega)
theorem zeroI (w : World) : (zeroValue 3).run Try.prog w = .ok (.int .i64 0) w := by kernel_rfl
theorem keyLitU (q : Nat) : WideAt.IsKeyLit (litU q) := trivial
/-- The map tells these levels. -/
def MpL (w : World) (b n : Nat) (f : Nat → Option Int) : Prop := ∃ D : DataW Unit, w.ownsMap Try.prog TU intElem b n D ∧ ∀ q, WfU q → Maps.has D (litU q) = (f q).isSome ∧ ∀ l, f q = some l → ∀ z, D.atKey (litU q) z = .lit (.int .i64 l)
section
variable {w w' : World} {b n : Nat} {f : Nat → Option Int}
theorem MpL.kept (h : MpL w b n f) (hk : w'.heap[b]? = w.heap[b]?) : MpL w' b n f := by
  obtain ⟨D, ⟨es, clock, hb, F, hs, hD⟩, h2⟩ := h
  exact ⟨D, ⟨es, clock, hk.trans hb, F, hs, hD⟩, h2⟩
theorem MpL.tag (h : MpL w b n f) : tag w b = some 1000 := by
  obtain ⟨D, ⟨es, clock, hb, _⟩, _⟩ := h
  simp [Go.Proofs.Ytcdfgcjecmpjhaa.tag, hb, tagOf]
theorem MpL.lt (h : MpL w b n f) : b < w.heap.size := tag_lt h.tag
theorem MpL.mono (h : MpL w b n f) {m : Nat} (hm : n ≤ m) : MpL w b m f := by
  obtain ⟨D, h1, h2⟩ := h
  exact ⟨D, h1.mono hm, h2⟩
theorem MpL.made (w : World) : MpL (w.alloc (.map #[] 0)) w.heap.size 0 (fun _ => none) := by
  refine ⟨.map [], World.ownsMap_made w Try.prog TU intElem, fun q _ => ⟨by simp [Maps.has], fun l hl => by cases hl⟩⟩
theorem MpL.look (h : MpL w b n f) {q : Nat} (hq : WfU q) : ∃ (x : Int) (c : Bool), c = (f q).isSome ∧ (∀ l, f q = some l → x = l) ∧ (Instr.lookup TM (.map (some b)) (.int .u64 (q : Int)) true).run Try.prog w = .ok (.tuple #[.int .i64 x, .bool c]) w := by
  obtain ⟨D, h1, h2⟩ := h
  obtain ⟨v, ps, hr, hv⟩ := h1.look_ok lawU Try.underlying57 (zeroI w) (zd := .lit (.int .i64 0)) (zp := []) rfl (keyU hq)
  obtain ⟨x, rfl, hx⟩ := intElem_inv hv
  refine ⟨x, _, (h2 q hq).1, fun l hl => ?_, hr⟩
  rw [(h2 q hq).2 l hl] at hx
  simp at hx
  exact hx.1.symm
theorem turned_chg (h : w.mapTurned w' b) : Chg (fun k => k = b) w w' := by
  have hg := h.grown
  exact (Chg.grown hg).wide (fun k _ e => (Option.some.inj e).symm)
theorem MpL.store (h : MpL w b n f) {q : Nat} (hq : WfU q) (l : Int) (hn : n < 1000000) : ∃ w', (Instr.mapUpdate TM (.map (some b)) (.int .u64 (q : Int)) (.int .i64 l)).run Try.prog w = .ok () w' ∧ MpL w' b (n + 1) (fun p => if p = q then some l else f p) ∧ Chg (fun k => k = b) w w' := by
  obtain ⟨D, h1, h2⟩ := h
  obtain ⟨w', hr, ho, ht⟩ := h1.store lawU Try.underlying57 (by unfold maxLen; omega) (keyU hq) (val := .int .i64 l) (d := .lit (.int .i64 l)) (ps := []) rfl
  refine ⟨w', hr, ⟨_, ho, fun p hp => ?_⟩, turned_chg ht⟩
  by_cases e : p = q
  · subst e
    simp only [if_true]
    rw [Maps.has_put_same h1.isMap (keyLitU p)]
    exact ⟨rfl, fun l' hl' z => by rw [Maps.atKey_put_same h1.isMap (keyLitU p), Option.some.inj hl']⟩
  · simp only [if_neg e]
    rw [Maps.has_put_other (litU_ne e)]
    exact ⟨(h2 p hp).1, fun l' hl' z => by rw [Maps.atKey_put_other (litU_ne e)]; exact (h2 p hp).2 l' hl' z⟩
theorem MpL.drop (h : MpL w b n f) {q : Nat} (hq : WfU q) (ty : TypeId) : ∃ w', (Builtin.delete_ #[TM, TU] ty #[.map (some b), .int .u64 (q : Int)]).run Try.prog w = .ok (.tuple #[]) w' ∧ MpL w' b n (fun p => if p = q then none else f p) ∧ Chg (fun k => k = b) w w' := by
  obtain ⟨D, h1, h2⟩ := h
  obtain ⟨w', hr, ho, ht⟩ := h1.drop lawU Try.underlying57 (keyU hq) ty
  refine ⟨w', hr, ⟨_, ho, fun p hp => ?_⟩, turned_chg ht⟩
  by_cases e : p = q
  · subst e
    simp only [if_true]
    rw [Maps.has_del_same]
    exact ⟨rfl, fun l' hl' => by cases hl'⟩
  · simp only [if_neg e]
    rw [Maps.has_del_other (litU_ne e)]
    exact ⟨(h2 p hp).1, fun l' hl' z => by rw [Maps.atKey_del_other (litU_ne e)]; exact (h2 p hp).2 l' hl' z⟩
end
end Go.Proofs.Ytcdfgcjecmpjhaa
