/- Lists of entries as arguments: what a reading of one gives. -/
import Derived.Test.YtfijibengmgegaaQa00
import Derived.Test.YtfijibengmgegaaC11MemA
import Derived.Deep.Slices
import Derived.Deep.Strs
import Derived.ChangeSame
import Derived.SizedLaws
import Derived.WideShapes
namespace Go.Proofs.Ytfijibengmgegaa
set_option maxRecDepth 100000
open Go.ChangeShapes Go.WideShapes Go.RowKit
set_option linter.unusedVariables false
set_option linter.unusedSimpArgs false
theorem collect {α : Type} (P : Nat → α → Prop) : ∀ len : Nat, (∀ i, i < len → ∃ o, P i o) → ∃ l : List α, l.length = len ∧ ∀ i (hi : i < l.length), P i l[i]
  | 0, _ => ⟨[], rfl, fun i hi => absurd hi (Nat.not_lt_zero _)⟩
  | len + 1, h => by
    obtain ⟨l, hl, hall⟩ := collect P len fun i hi => h i (by omega)
    obtain ⟨o, ho⟩ := h len (by omega)
    refine ⟨l ++ [o], by simp [hl], fun i hi => ?_⟩
    by_cases hi' : i < l.length
    · rw [List.getElem_append_left hi']
      exact hall i hi'
    · have e : i = l.length := by simp at hi; omega
      subst e
      rw [List.getElem_append_right (Nat.le_refl _)]
      simp only [Nat.sub_self, List.getElem_cons_zero]
      rw [hl]
      exact ho
theorem cells_kv : Try.prog.cellsOf TKV = 4 := by kernel_rfl
theorem cells_ik : Try.prog.cellsOf 33 = 3 := by kernel_rfl
theorem cells_s1 : Try.prog.cellsOf 9 = 1 := by kernel_rfl
theorem cells_u1 : Try.prog.cellsOf 31 = 1 := by kernel_rfl
theorem cells_i1 : Try.prog.cellsOf 3 = 1 := by kernel_rfl
/-- An entry that came in. -/
structure RawOk (e : KV) : Prop where
  key : e.1.user.size ≤ maxLen
  val : e.2.size ≤ 9223372036854775807
/-- A slice that came in: bare or at no spot. -/
theorem slice_spot {t e : TypeId} {w : World} {r : Reach} {base : Nat} {a : Option Addr} {n c : Nat} (ht : Try.prog.underlying t = some (.slice e)) (h : Value.okWide Try.prog w r base t (.slice a n c)) : (a = none → c = 0) ∧ ∀ x, a = some x → x.spot = none := by
  simp only [Value.okWide, ht, Cell.okWide, Cell.ok] at h
  cases a with
  | none =>
    refine ⟨fun _ => ?_, fun x e => by cases e⟩
    cases c with
    | zero => rfl
    | succ c => cases n <;> simp at h
  | some x =>
    refine ⟨fun e => (by cases e), fun y e => ?_⟩
    cases e
    exact h.2.2.2.1
section
variable {H : Type} {enc : TypeId × Value → H} {w : World} {base : Nat} {sp : Nat → Bool} {held : Bool}
set_option maxRecDepth 100000 in
theorem open_ik {n : Nat} {cs : List Value} {y : DataW H × List MemPlace} (h : DataW.trod enc Try.prog w base sp held n 33 cs = some y) :
    ∃ k : IK, cs = [.string k.user, .int .u64 (k.seq : Int), .int .i64 k.kind] ∧ k.user.size ≤ maxLen ∧ y.1 = .agg [.lit (.string k.user.data.toList), .lit (.int .u64 (k.seq : Int)), .lit (.int .i64 k.kind)] := by
  obtain ⟨y0, y1, y2, m, rfl, hl, h0, h1, h2⟩ := Go.Deep.trod_struct3 Try.underlying33 h
  rw [cells_ik] at hl
  match cs, hl with
  | [c0, c1, c2], _ =>
  obtain ⟨s, e0, rfl, ws⟩ := DataW.trod_string Try.underlying9 h0
  obtain ⟨q, e1, rfl, wq⟩ := DataW.trod_int Try.underlying31 h1
  obtain ⟨k, e2, rfl, wk⟩ := DataW.trod_int Try.underlying3 h2
  simp [cells_s1, cells_u1, cells_i1] at e0 e1 e2
  subst e0 e1 e2
  have hq : q = ((q.toNat : Nat) : Int) := by
    simp [Lit.wf, IntKind.min, IntKind.max, IntKind.bits, IntKind.signed] at wq
    omega
  refine ⟨⟨s, q.toNat, k⟩, by rw [← hq], ws, by rw [← hq]⟩
set_option maxRecDepth 100000 in
theorem open_kv {n : Nat} {cs : List Value} {y : DataW H × List MemPlace} (h : DataW.trod enc Try.prog w base sp held n TKV cs = some y) :
    ∃ e : KV, cs = kvc e ∧ RawOk e := by
  obtain ⟨y0, y1, m, _, hl, h0, h1⟩ := trod_struct2 Try.underlying35 h
  rw [cells_kv] at hl
  match cs, hl with
  | [c0, c1, c2, c3], _ =>
  simp [cells_ik, cells_s1] at h0 h1
  obtain ⟨k, e0, hk, _⟩ := open_ik h0
  obtain ⟨s, e1, _, ws⟩ := DataW.trod_string Try.underlying9 h1
  simp at e0 e1
  obtain ⟨rfl, rfl, rfl⟩ := e0
  subst e1
  unfold maxLen at ws
  exact ⟨(k, s), rfl, hk, by omega⟩
theorem open_kvs {fuel : Nat} {cs : List Value} {x : DataW H × List MemPlace} (h : DataW.trod enc Try.prog w base sp held fuel 26 cs = some x) :
    ∃ (a : Option Addr) (len cap : Nat) (l : List KV), cs = [.slice a len cap] ∧ KsAt w a len cap l ∧ (∀ e ∈ l, RawOk e) ∧ (x.1 = .nil ∧ len = 0 ∨ ∃ es ss, x.1 = .slice es ss ∧ es.length = len) := by
  rcases Go.Deep.open_slice Try.underlying26 h with ⟨h0, rfl⟩ | ⟨a, len, cap, m, n, D, Pl, rfl, hb, hl, hm, hmm, rfl, hx⟩
  · exact ⟨none, 0, 0, [], h0, KsAt.nil w, by simp, .inl ⟨rfl, rfl⟩⟩
  have hlm : len ≤ m := by rw [hmm]; split <;> omega
  obtain ⟨l, hll, hall⟩ := collect (fun i (e : KV) => (∀ r, r < 4 → w.cell? (a.add (i * 4 + r)) = (kvc e)[r]?) ∧ RawOk e) len (fun i hi => by
    obtain ⟨cs', h1, h2⟩ := hx i (by omega)
    have h1' : w.cells? base (a.add (i * 4)) 4 = some cs' := by
      rw [show Try.prog.cellsOf 35 = 4 from cells_kv] at h1
      exact h1
    obtain ⟨_, _, hcell⟩ := World.cells?_some h1'
    obtain ⟨e, rfl, he⟩ := open_kv h2
    refine ⟨e, fun r hr => ?_, he⟩
    have e0 := hcell r hr
    rw [Go.Deep.add_add] at e0
    rw [e0])
  refine ⟨some a, len, cap, l, rfl, ⟨hll, hl, hm, fun hp => ?_⟩, fun e he => ?_, .inr ⟨_, _, rfl, by simp⟩⟩
  · obtain ⟨b, off, spot⟩ := a
    have h0 := (hall 0 (by omega)).1 0 (by omega)
    have hspot : spot = none := by
      have : w.cell? ((⟨b, off, spot⟩ : Addr).add (0 * 4 + 0)) = some (.string (l[0]'(by omega)).1.user) := h0
      simpa [Addr.add] using World.cell?_spot this
    subst hspot
    refine ⟨b, off, rfl, fun j hj => ?_⟩
    have hd : j / 4 < l.length := by omega
    have hg := (hall (j / 4) hd).1 (j % 4) (by omega)
    rw [Addr.add_lit, show j / 4 * 4 + j % 4 = j by omega] at hg
    rw [hg, ← cellsKV_get l (j / 4) (j % 4) hd (by omega), show j / 4 * 4 + j % 4 = j by omega]
  · obtain ⟨i, hi, rfl⟩ := List.mem_iff_getElem.1 he
    exact (hall i hi).2
end
end Go.Proofs.Ytfijibengmgegaa
