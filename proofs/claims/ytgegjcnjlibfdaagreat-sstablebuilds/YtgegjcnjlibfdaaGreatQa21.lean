/- Lists of entries as arguments: what a reading of one gives. -/
import Derived.Test.YtgegjcnjlibfdaaGreatQa00
import Derived.Test.YtgegjcnjlibfdaaGreatC11MemA
import Derived.Deep.Slices
import Derived.Deep.Strs
import Derived.ChangeSame
import Derived.SizedLaws
import Derived.WideShapes
import Derived.Laws.Cover2
import Derived.OpenShut
import Derived.ShutString
namespace Go.Proofs.YtgegjcnjlibfdaaGreat
set_option maxRecDepth 100000
open Go.ChangeShapes Go.WideShapes Go.RowKit
set_option linter.unusedVariables false
set_option linter.unusedSimpArgs false
theorem collect {α : Type} (P : Nat → α → Prop) : ∀ len : Nat, (∀ i, i < len → ∃ o, P i o) → ∃ l : List α, l.length = len ∧ ∀ i (hi : i < l.length), P i l[i]
  | 0, _ => ⟨[], rfl, fun i hi => absurd hi (Nat.not_lt_zero _)⟩
  | len + 1, h => by
    obtain ⟨l, hl, hall⟩ := collect P len fun i hi => h i (by omega)
    obtain ⟨o, ho⟩ := h len (by omega)
    refine ⟨l ++ [o], by simp [hl], fun i hi => ?_⟩
    by_cases hi' : i < l.length
    · rw [List.getElem_append_left hi']
      exact hall i hi'
    · have e : i = l.length := by simp at hi; omega
      subst e
      rw [List.getElem_append_right (Nat.le_refl _)]
      simp only [Nat.sub_self, List.getElem_cons_zero]
      rw [hl]
      exact ho
theorem cells_kv : Tryz.prog.cellsOf TKV = 4 := by kernel_rfl
theorem cells_ik : Tryz.prog.cellsOf 52 = 3 := by kernel_rfl
theorem cells_s1 : Tryz.prog.cellsOf 9 = 1 := by kernel_rfl
theorem cells_u1 : Tryz.prog.cellsOf 33 = 1 := by kernel_rfl
theorem cells_i1 : Tryz.prog.cellsOf 3 = 1 := by kernel_rfl
/-- An entry that came in. -/
structure RawOk (e : KV) : Prop where
  key : e.1.user.size ≤ maxLen
  val : e.2.size ≤ 9223372036854775807
/-- A slice that came in: bare or at no spot. -/
theorem slice_spot {t e : TypeId} {w : World} {r : Reach} {base : Nat} {a : Option Addr} {n c : Nat} (ht : Tryz.prog.underlying t = some (.slice e)) (h : Value.okWide Tryz.prog w r base t (.slice a n c)) : (a = none → c = 0) ∧ ∀ x, a = some x → x.spot = none := by
  simp only [Value.okWide, ht, Cell.okWide, Cell.ok] at h
  cases a with
  | none =>
    refine ⟨fun _ => ?_, fun x e => by cases e⟩
    cases c with
    | zero => rfl
    | succ c => cases n <;> simp at h
  | some x =>
    refine ⟨fun e => (by cases e), fun y e => ?_⟩
    cases e
    exact h.2.2.2.1
section
variable {H : Type} {enc : TypeId × Value → H} {w : World} {base : Nat} {sp : Nat → Bool} {held : Bool}
set_option maxRecDepth 100000 in
theorem open_ik {n : Nat} {cs : List Value} {y : DataW H × List MemPlace} (h : DataW.trod enc Tryz.prog w base sp held n 52 cs = some y) :
    ∃ k : IK, cs = [.string k.user, .int .u64 (k.seq : Int), .int .i64 k.kind] ∧ k.user.size ≤ maxLen ∧ y.1 = .agg [.lit (.string k.user.data.toList), .lit (.int .u64 (k.seq : Int)), .lit (.int .i64 k.kind)] := by
  obtain ⟨y0, y1, y2, m, rfl, hl, h0, h1, h2⟩ := Go.Deep.trod_struct3 Tryz.underlying52 h
  rw [cells_ik] at hl
  match cs, hl with
  | [c0, c1, c2], _ =>
  obtain ⟨s, e0, rfl, ws⟩ := DataW.trod_string Tryz.underlying9 h0
  obtain ⟨q, e1, rfl, wq⟩ := DataW.trod_int Tryz.underlying33 h1
  obtain ⟨k, e2, rfl, wk⟩ := DataW.trod_int Tryz.underlying3 h2
  simp [cells_s1, cells_u1, cells_i1] at e0 e1 e2
  subst e0 e1 e2
  have hq : q = ((q.toNat : Nat) : Int) := by
    simp [Lit.wf, IntKind.min, IntKind.max, IntKind.bits, IntKind.signed] at wq
    omega
  refine ⟨⟨s, q.toNat, k⟩, by rw [← hq], ws, by rw [← hq]⟩
set_option maxRecDepth 100000 in
theorem open_kv {n : Nat} {cs : List Value} {y : DataW H × List MemPlace} (h : DataW.trod enc Tryz.prog w base sp held n TKV cs = some y) :
    ∃ e : KV, cs = kvc e ∧ RawOk e := by
  obtain ⟨y0, y1, m, _, hl, h0, h1⟩ := trod_struct2 Tryz.underlying54 h
  rw [cells_kv] at hl
  match cs, hl with
  | [c0, c1, c2, c3], _ =>
  simp [cells_ik, cells_s1] at h0 h1
  obtain ⟨k, e0, hk, _⟩ := open_ik h0
  obtain ⟨s, e1, _, ws⟩ := DataW.trod_string Tryz.underlying9 h1
  simp at e0 e1
  obtain ⟨rfl, rfl, rfl⟩ := e0
  subst e1
  unfold maxLen at ws
  exact ⟨(k, s), rfl, hk, by omega⟩
theorem open_kvs {fuel : Nat} {cs : List Value} {x : DataW H × List MemPlace} (h : DataW.trod enc Tryz.prog w base sp held fuel 23 cs = some x) :
    ∃ (a : Option Addr) (len cap : Nat) (l : List KV), cs = [.slice a len cap] ∧ KsAt w a len cap l ∧ (∀ e ∈ l, RawOk e) ∧ (x.1 = .nil ∧ len = 0 ∨ ∃ es ss, x.1 = .slice es ss ∧ es.length = len) := by
  rcases Go.Deep.open_slice Tryz.underlying23 h with ⟨h0, rfl⟩ | ⟨a, len, cap, m, n, D, Pl, rfl, hb, hl, hm, hmm, rfl, hx⟩
  · exact ⟨none, 0, 0, [], h0, KsAt.nil w, by simp, .inl ⟨rfl, rfl⟩⟩
  have hlm : len ≤ m := by rw [hmm]; split <;> omega
  obtain ⟨l, hll, hall⟩ := collect (fun i (e : KV) => (∀ r, r < 4 → w.cell? (a.add (i * 4 + r)) = (kvc e)[r]?) ∧ RawOk e) len (fun i hi => by
    obtain ⟨cs', h1, h2⟩ := hx i (by omega)
    have h1' : w.cells? base (a.add (i * 4)) 4 = some cs' := by
      rw [show Tryz.prog.cellsOf 54 = 4 from cells_kv] at h1
      exact h1
    obtain ⟨_, _, hcell⟩ := World.cells?_some h1'
    obtain ⟨e, rfl, he⟩ := open_kv h2
    refine ⟨e, fun r hr => ?_, he⟩
    have e0 := hcell r hr
    rw [Go.Deep.add_add] at e0
    rw [e0])
  refine ⟨some a, len, cap, l, rfl, ⟨hll, hl, hm, fun hp => ?_⟩, fun e he => ?_, .inr ⟨_, _, rfl, by simp⟩⟩
  · obtain ⟨b, off, spot⟩ := a
    have h0 := (hall 0 (by omega)).1 0 (by omega)
    have hspot : spot = none := by
      have : w.cell? ((⟨b, off, spot⟩ : Addr).add (0 * 4 + 0)) = some (.string (l[0]'(by omega)).1.user) := h0
      simpa [Addr.add] using World.cell?_spot this
    subst hspot
    refine ⟨b, off, rfl, fun j hj => ?_⟩
    have hd : j / 4 < l.length := by omega
    have hg := (hall (j / 4) hd).1 (j % 4) (by omega)
    rw [Addr.add_lit, show j / 4 * 4 + j % 4 = j by omega] at hg
    rw [hg, ← cellsKV_get l (j / 4) (j % 4) hd (by omega), show j / 4 * 4 + j % 4 = j by omega]
  · obtain ⟨i, hi, rfl⟩ := List.mem_iff_getElem.1 he
    exact (hall i hi).2
end
end Go.Proofs.YtgegjcnjlibfdaaGreat
/- Options, and lists of entries with how much they hold, as arguments. -/
namespace Go.Proofs.YtgegjcnjlibfdaaGreat
set_option maxRecDepth 100000
open Go.ChangeShapes Go.WideShapes Go.RowKit
set_option linter.unusedVariables false
set_option linter.unusedSimpArgs false
theorem cells_op12 : Tryz.prog.cellsOf 26 = 3 := by kernel_rfl
theorem cells_fl1 : Tryz.prog.cellsOf 24 = 1 := by kernel_rfl
theorem bytes_kv12 : Tryz.prog.bytesOf 54 = 48 := by kernel_rfl
def optV (bl iv : Int) (bits : Nat) : Value := .agg #[.int .i64 bl, .int .i64 iv, .float .f64 bits]
section
variable {H : Type} {enc : TypeId × Value → H} {w : World} {base : Nat} {sp : Nat → Bool} {held : Bool}
theorem trod_fl {n : Nat} {cs : List Value} {y : DataW H × List MemPlace} (h : DataW.trod enc Tryz.prog w base sp held n 24 cs = some y) : ∃ b : Nat, cs = [.float .f64 b] ∧ y = (.lit (.float .f64 b), []) ∧ (Lit.float .f64 b).wf = true := by
  cases n with
  | zero => simp [DataW.trod] at h
  | succ n =>
    simp only [DataW.trod, Tryz.underlying24] at h
    match cs, h with
    | [.float .f64 b], h =>
      by_cases hw : (Lit.float .f64 b).wf = true
      · simp [hw] at h
        exact ⟨b, rfl, h.symm, hw⟩
      · simp [hw] at h
    | .float .f32 b :: r, h => cases r <;> simp at h
theorem open_opts {r : Reach} {b0 : Nat} {v : Value} {d : DataW H} {ps : List MemPlace} (hval : Value.okWide Tryz.prog w r b0 26 v) (hd : DataW.Trod enc Tryz.prog w base sp held 26 v d ps) :
    ∃ (bl iv : Int) (bits : Nat), v = .agg #[.int .i64 bl, .int .i64 iv, .float .f64 bits] ∧ d = .agg [.lit (.int .i64 bl), .lit (.int .i64 iv), .lit (.float .f64 bits)] ∧ ps = [] ∧ (Lit.int .i64 bl).wf = true ∧ (Lit.int .i64 iv).wf = true ∧ (Lit.float .f64 bits).wf = true := by
  obtain ⟨cs, rfl, hsz⟩ := okWide_struct Tryz.underlying26 hval
  rw [cells_op12] at hsz
  obtain ⟨l⟩ := cs
  match l, hsz with
  | [c0, c1, c2], _ =>
  obtain ⟨fuel, hf⟩ := hd
  obtain ⟨y0, y1, y2, m, hx, _, hy0, hy1, hy2⟩ := Go.Deep.trod_struct3 Tryz.underlying26 hf
  obtain ⟨q, e0, rfl, wq⟩ := DataW.trod_int Tryz.underlying3 hy0
  obtain ⟨k, e1, rfl, wk⟩ := DataW.trod_int Tryz.underlying3 hy1
  obtain ⟨b, e2, rfl, wb⟩ := trod_fl hy2
  simp [Value.cells, cells_i1, cells_fl1] at e0 e1 e2
  subst e0 e1 e2
  simp only [Prod.mk.injEq] at hx
  obtain ⟨rfl, rfl⟩ := hx
  exact ⟨q, k, b, rfl, rfl, rfl, wq, wk, wb⟩
theorem shut_opts {bl iv : Int} {bits : Nat} (h0 : (Lit.int .i64 bl).wf = true) (h1 : (Lit.int .i64 iv).wf = true) (h2 : (Lit.float .f64 bits).wf = true) :
    DataW.Trod enc Tryz.prog w base sp held 26 (.agg #[.int .i64 bl, .int .i64 iv, .float .f64 bits]) (.agg [.lit (.int .i64 bl), .lit (.int .i64 iv), .lit (.float .f64 bits)]) [] := ⟨2, by
  have f0 : DataW.trod enc Tryz.prog w base sp held 1 3 [.int .i64 bl] = some (.lit (.int .i64 bl), []) := by simp [DataW.trod, Tryz.underlying3, h0]
  have f1 : DataW.trod enc Tryz.prog w base sp held 1 3 [.int .i64 iv] = some (.lit (.int .i64 iv), []) := by simp [DataW.trod, Tryz.underlying3, h1]
  have f2 : DataW.trod enc Tryz.prog w base sp held 1 24 [.float .f64 bits] = some (.lit (.float .f64 bits), []) := by simp [DataW.trod, Tryz.underlying24, h2]
  have := Go.Deep.trod_struct3_mk (enc := enc) (w := w) (base := base) (spare := sp) (held := held) (n := 1) (cs := [.int .i64 bl, .int .i64 iv, .float .f64 bits]) Tryz.underlying26 (by simp [cells_op12]) (by simpa [cells_i1] using f0) (by simpa [cells_i1] using f1) (by simpa [cells_fl1] using f2)
  simpa [Value.cells] using this⟩
/-- An entry's datum. -/
def kvD (H : Type) (e : KV) : DataW H := .agg [.agg [.lit (.string e.1.user.data.toList), .lit (.int .u64 (e.1.seq : Int)), .lit (.int .i64 e.1.kind)], .lit (.string e.2.data.toList)]
theorem open_kvD {n : Nat} {cs : List Value} {y : DataW H × List MemPlace} (h : DataW.trod enc Tryz.prog w base sp held n TKV cs = some y) :
    ∃ e : KV, cs = kvc e ∧ RawOk e ∧ e.1.seq < 18446744073709551616 ∧ y.1 = kvD H e := by
  obtain ⟨y0, y1, m, rfl, hl, h0, h1⟩ := trod_struct2 Tryz.underlying54 h
  rw [cells_kv] at hl
  match cs, hl with
  | [c0, c1, c2, c3], _ =>
  simp [cells_ik, cells_s1] at h0 h1
  obtain ⟨z0, z1, z2, m', hz, hl', g0, g1, g2⟩ := Go.Deep.trod_struct3 Tryz.underlying52 h0
  obtain ⟨s, e0, rfl, ws⟩ := DataW.trod_string Tryz.underlying9 g0
  obtain ⟨q, e1, rfl, wq⟩ := DataW.trod_int Tryz.underlying33 g1
  obtain ⟨k, e2, rfl, wk⟩ := DataW.trod_int Tryz.underlying3 g2
  obtain ⟨s2, e3, hy1, ws2⟩ := DataW.trod_string Tryz.underlying9 h1
  simp [cells_s1, cells_u1, cells_i1] at e0 e1 e2 e3
  subst e0 e1 e2 e3
  have hq : q = ((q.toNat : Nat) : Int) ∧ q.toNat < 18446744073709551616 := by
    simp [Lit.wf, IntKind.min, IntKind.max, IntKind.bits, IntKind.signed] at wq
    omega
  unfold maxLen at ws2
  refine ⟨(⟨s, q.toNat, k⟩, s2), ?_, ⟨ws, by omega⟩, hq.2, ?_⟩
  · unfold kvc
    rw [← hq.1]
  · rw [hz, hy1]
    unfold kvD
    rw [← hq.1]
theorem open_kvs12 {fuel : Nat} {cs : List Value} {x : DataW H × List MemPlace} (h : DataW.trod enc Tryz.prog w base sp held fuel 23 cs = some x) :
    ∃ (a : Option Addr) (len cap : Nat) (l : List KV), cs = [.slice a len cap] ∧ KsAt w a len cap l ∧ (∀ e ∈ l, RawOk e ∧ e.1.seq < 18446744073709551616) ∧ (l = [] ∨ ∃ es ss, x.1 = .slice es ss ∧ ∀ e ∈ l, kvD H e ∈ es) := by
  rcases Go.Deep.open_slice Tryz.underlying23 h with ⟨h0, rfl⟩ | ⟨a, len, cap, m, n, D, Pl, rfl, hb, hl, hm, hmm, rfl, hx⟩
  · exact ⟨none, 0, 0, [], h0, KsAt.nil w, by simp, .inl rfl⟩
  have hlm : len ≤ m := by rw [hmm]; split <;> omega
  obtain ⟨l, hll, hall⟩ := collect (fun i (e : KV) => (∀ r, r < 4 → w.cell? (a.add (i * 4 + r)) = (kvc e)[r]?) ∧ RawOk e ∧ e.1.seq < 18446744073709551616 ∧ D i = kvD H e) len (fun i hi => by
    obtain ⟨cs', h1, h2⟩ := hx i (by omega)
    have h1' : w.cells? base (a.add (i * 4)) 4 = some cs' := by
      rw [show Tryz.prog.cellsOf 54 = 4 from cells_kv] at h1
      exact h1
    obtain ⟨_, _, hcell⟩ := World.cells?_some h1'
    obtain ⟨e, rfl, he, hsq, hd⟩ := open_kvD h2
    refine ⟨e, fun r hr => ?_, he, hsq, hd⟩
    have e0 := hcell r hr
    rw [Go.Deep.add_add] at e0
    rw [e0])
  refine ⟨some a, len, cap, l, rfl, ⟨hll, hl, hm, fun hp => ?_⟩, fun e he => ?_, .inr ⟨_, _, rfl, fun e he => ?_⟩⟩
  · obtain ⟨b, off, spot⟩ := a
    have h0 := (hall 0 (by omega)).1 0 (by omega)
    have hspot : spot = none := by
      have : w.cell? ((⟨b, off, spot⟩ : Addr).add (0 * 4 + 0)) = some (.string (l[0]'(by omega)).1.user) := h0
      simpa [Addr.add] using World.cell?_spot this
    subst hspot
    refine ⟨b, off, rfl, fun j hj => ?_⟩
    have hd : j / 4 < l.length := by omega
    have hg := (hall (j / 4) hd).1 (j % 4) (by omega)
    rw [Addr.add_lit, show j / 4 * 4 + j % 4 = j by omega] at hg
    rw [hg, ← cellsKV_get l (j / 4) (j % 4) hd (by omega), show j / 4 * 4 + j % 4 = j by omega]
  · obtain ⟨i, hi, rfl⟩ := List.mem_iff_getElem.1 he
    exact ⟨(hall i hi).2.1, (hall i hi).2.2.1⟩
  · obtain ⟨i, hi, rfl⟩ := List.mem_iff_getElem.1 he
    rw [← (hall i hi).2.2.2]
    exact List.mem_map.2 ⟨i, by simpa using (by omega : i < len), rfl⟩
theorem weightsAll_mem12 {P : Program} {e : TypeId} {n : Nat} : ∀ {l : List (DataW H)} {d : DataW H}, d ∈ l → n ∈ d.weights P e → n ∈ DataW.weightsAll P e l
  | x :: r, d, hd, hn => by
    rw [DataW.weightsAll]
    rcases List.mem_cons.1 hd with rfl | hd
    · exact List.mem_append_left _ hn
    · exact List.mem_append_right _ (weightsAll_mem12 hd hn)
theorem kvs_said {l : List KV} {d : DataW H} (h : l = [] ∨ ∃ es ss, d = .slice es ss ∧ ∀ e ∈ l, kvD H e ∈ es) (hw : ∀ n ∈ d.weights Tryz.prog 23, n ≤ 140737488351232) : ∀ e ∈ l, e.1.user.size ≤ 140737488351232 ∧ e.2.size ≤ 140737488351232 := by
  rcases h with rfl | ⟨es, ss, rfl, hs⟩
  · simp
  · simp only [DataW.weights, Tryz.underlying23] at hw
    intro e he
    have h1 : e.1.user.data.toList.length ∈ (kvD H e).weights Tryz.prog 54 := by
      unfold kvD
      simp [DataW.weights, Tryz.underlying54, Tryz.underlying52, DataW.weightsEach]
    have h2 : e.2.data.toList.length ∈ (kvD H e).weights Tryz.prog 54 := by
      unfold kvD
      simp [DataW.weights, Tryz.underlying54, Tryz.underlying52, DataW.weightsEach]
    have g1 := hw _ (List.mem_cons_of_mem _ (List.mem_append_left _ (weightsAll_mem12 (hs e he) h1)))
    have g2 := hw _ (List.mem_cons_of_mem _ (List.mem_append_left _ (weightsAll_mem12 (hs e he) h2)))
    rw [Array.length_toList] at g1 g2
    exact ⟨g1, g2⟩
end
end Go.Proofs.YtgegjcnjlibfdaaGreat
