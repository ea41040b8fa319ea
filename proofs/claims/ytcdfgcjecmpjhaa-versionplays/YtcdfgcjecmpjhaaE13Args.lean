/- Edits as arguments: what a reading of one gives. -/
import Derived.Test.YtcdfgcjecmpjhaaArgs
import Derived.Test.YtcdfgcjecmpjhaaE13Mem
import Derived.Deep.Slices
import Derived.Deep.Strs
import Derived.ChangeSame
import Derived.SizedLaws
import Derived.WideShapes
namespace Go.Proofs.Ytcdfgcjecmpjhaa
set_option maxRecDepth 100000
open Go.ChangeShapes Go.WideShapes Go.RowKit
set_option linter.unusedVariables false
set_option linter.unusedSimpArgs false
theorem collect {α : Type} (P : Nat → α → Prop) : ∀ len : Nat, (∀ i, i < len → ∃ o, P i o) → ∃ l : List α, l.length = len ∧ ∀ i (hi : i < l.length), P i l[i]
  | 0, _ => ⟨[], rfl, fun i hi => absurd hi (Nat.not_lt_zero _)⟩
  | len + 1, h => by
    obtain ⟨l, hl, hall⟩ := collect P len fun i hi => h i (by omega)
    obtain ⟨o, ho⟩ := h len (by omega)
    refine ⟨l ++ [o], by simp [hl], fun i hi => ?_⟩
    by_cases hi' : i < l.length
    · rw [List.getElem_append_left hi']
      exact hall i hi'
    · have e : i = l.length := by simp at hi; omega
      subst e
      rw [List.getElem_append_right (Nat.le_refl _)]
      simp only [Nat.sub_self, List.getElem_cons_zero]
      rw [hl]
      exact ho
theorem cells_g : Try.prog.cellsOf TG = 2 := by kernel_rfl
theorem cells_f : Try.prog.cellsOf TF = 9 := by kernel_rfl
theorem cells_e : Try.prog.cellsOf TE = 5 := by kernel_rfl
theorem cells_ik : Try.prog.cellsOf 48 = 3 := by kernel_rfl
theorem cells_s1 : Try.prog.cellsOf 9 = 1 := by kernel_rfl
theorem cells_u1 : Try.prog.cellsOf 33 = 1 := by kernel_rfl
theorem cells_i1 : Try.prog.cellsOf 3 = 1 := by kernel_rfl
theorem cells_sg : Try.prog.cellsOf 34 = 1 := by kernel_rfl
theorem cells_sf : Try.prog.cellsOf 23 = 1 := by kernel_rfl
theorem bytes_g : Try.prog.bytesOf TG = 16 := by kernel_rfl
theorem bytes_f : Try.prog.bytesOf TF = 88 := by kernel_rfl
theorem u64_nat {q : Int} (h : (Lit.int .u64 q).wf = true) : q = ((q.toNat : Nat) : Int) := by
  simp [Lit.wf, IntKind.min, IntKind.max, IntKind.bits, IntKind.signed] at h
  omega
section
variable {H : Type} {enc : TypeId × Value → H} {w : World} {base : Nat} {sp : Nat → Bool} {held : Bool}
theorem open_g {n : Nat} {cs : List Value} {y : DataW H × List MemPlace} (h : DataW.trod enc Try.prog w base sp held n TG cs = some y) : ∃ g : PG, cs = gc g := by
  obtain ⟨y0, y1, m, _, hl, h0, h1⟩ := trod_struct2 Try.underlying52 h
  rw [cells_g] at hl
  match cs, hl with
  | [c0, c1], _ =>
  obtain ⟨l, e0, _, _⟩ := DataW.trod_int Try.underlying3 h0
  obtain ⟨q, e1, _, wq⟩ := DataW.trod_int Try.underlying33 h1
  simp [cells_i1, cells_u1] at e0 e1
  subst e0 e1
  refine ⟨⟨l, q.toNat⟩, ?_⟩
  unfold gc
  rw [← u64_nat wq]
theorem open_ik {n : Nat} {cs : List Value} {y : DataW H × List MemPlace} (h : DataW.trod enc Try.prog w base sp held n 48 cs = some y) :
    ∃ k : IK, cs = [.string k.user, .int .u64 (k.seq : Int), .int .i64 k.kind] ∧ y.1 = .agg [.lit (.string k.user.data.toList), .lit (.int .u64 (k.seq : Int)), .lit (.int .i64 k.kind)] := by
  obtain ⟨y0, y1, y2, m, rfl, hl, h0, h1, h2⟩ := Go.Deep.trod_struct3 Try.underlying48 h
  rw [cells_ik] at hl
  match cs, hl with
  | [c0, c1, c2], _ =>
  obtain ⟨s, e0, rfl, ws⟩ := DataW.trod_string Try.underlying9 h0
  obtain ⟨q, e1, rfl, wq⟩ := DataW.trod_int Try.underlying33 h1
  obtain ⟨k, e2, rfl, wk⟩ := DataW.trod_int Try.underlying3 h2
  simp [cells_s1, cells_u1, cells_i1] at e0 e1 e2
  subst e0 e1 e2
  have hq := u64_nat wq
  refine ⟨⟨s, q.toNat, k⟩, by rw [← hq], by rw [← hq]⟩
theorem struct5 {t : TypeId} {f0 f1 f2 f3 f4 : Field} {fuel : Nat} {cs : List Value} {x : DataW H × List MemPlace} (ht : Try.prog.underlying t = some (.struct #[f0, f1, f2, f3, f4])) (h : DataW.trod enc Try.prog w base sp held fuel t cs = some x) :
    ∃ y0 y1 y2 y3 y4 n, x.1 = .agg [y0.1, y1.1, y2.1, y3.1, y4.1] ∧ cs.length = Try.prog.cellsOf t ∧ DataW.trod enc Try.prog w base sp held n f0.type ((cs.drop f0.offset).take (Try.prog.cellsOf f0.type)) = some y0 ∧
      DataW.trod enc Try.prog w base sp held n f1.type ((cs.drop f1.offset).take (Try.prog.cellsOf f1.type)) = some y1 ∧ DataW.trod enc Try.prog w base sp held n f2.type ((cs.drop f2.offset).take (Try.prog.cellsOf f2.type)) = some y2 ∧
      DataW.trod enc Try.prog w base sp held n f3.type ((cs.drop f3.offset).take (Try.prog.cellsOf f3.type)) = some y3 ∧ DataW.trod enc Try.prog w base sp held n f4.type ((cs.drop f4.offset).take (Try.prog.cellsOf f4.type)) = some y4 := by
  obtain ⟨xs, n, _, rfl, hl, hlen, hf⟩ := DataW.trod_struct ht h
  match xs, hlen with
  | [y0, y1, y2, y3, y4], _ => exact ⟨y0, y1, y2, y3, y4, n, by simp, hl, by simpa using hf 0 f0 rfl, by simpa using hf 1 f1 rfl, by simpa using hf 2 f2 rfl, by simpa using hf 3 f3 rfl, by simpa using hf 4 f4 rfl⟩
theorem open_f {n : Nat} {cs : List Value} {y : DataW H × List MemPlace} (h : DataW.trod enc Try.prog w base sp held n TF cs = some y) :
    ∃ f : PF, cs = fc f ∧ f.small.user.data.toList.length ∈ y.1.weights Try.prog TF ∧ f.large.user.data.toList.length ∈ y.1.weights Try.prog TF := by
  obtain ⟨y0, y1, y2, y3, y4, m, hy, hl, h0, h1, h2, h3, h4⟩ := struct5 Try.underlying50 h
  rw [cells_f] at hl
  match cs, hl with
  | [c0, c1, c2, c3, c4, c5, c6, c7, c8], _ =>
  obtain ⟨l, e0, hy0, _⟩ := DataW.trod_int Try.underlying3 h0
  obtain ⟨q, e1, hy1, wq⟩ := DataW.trod_int Try.underlying33 h1
  obtain ⟨z, e2, hy2, _⟩ := DataW.trod_int Try.underlying3 h2
  obtain ⟨k, e3, hy3⟩ := open_ik h3
  obtain ⟨k', e4, hy4⟩ := open_ik h4
  simp [cells_i1, cells_u1, cells_ik] at e0 e1 e2 e3 e4
  obtain ⟨rfl, rfl, rfl⟩ := e3
  obtain ⟨rfl, rfl, rfl⟩ := e4
  subst e0 e1 e2
  refine ⟨⟨l, q.toNat, z, k, k'⟩, ?_, ?_, ?_⟩
  · unfold fc
    rw [← u64_nat wq]
  · rw [hy, hy3, hy4]
    simp [DataW.weights, Try.underlying50, Try.underlying48, DataW.weightsEach]
  · rw [hy, hy3, hy4]
    simp [DataW.weights, Try.underlying50, Try.underlying48, DataW.weightsEach]
theorem weightsAll_mem {P : Program} {e : TypeId} {n : Nat} : ∀ {l : List (DataW H)} {d : DataW H}, d ∈ l → n ∈ d.weights P e → n ∈ DataW.weightsAll P e l
  | x :: r, d, hd, hn => by
    rw [DataW.weightsAll]
    rcases List.mem_cons.1 hd with rfl | hd
    · exact List.mem_append_left _ hn
    · exact List.mem_append_right _ (weightsAll_mem hd hn)
theorem open_gs {fuel : Nat} {cs : List Value} {x : DataW H × List MemPlace} (h : DataW.trod enc Try.prog w base sp held fuel 34 cs = some x) (hw : ∀ n ∈ x.1.weights Try.prog 34, n ≤ 140737488351232) :
    ∃ (a : Option Addr) (len cap : Nat) (l : List PG), cs = [.slice a len cap] ∧ GsAt w a len cap l ∧ len * 16 ≤ 140737488351232 := by
  rcases Go.Deep.open_slice Try.underlying34 h with ⟨h0, rfl⟩ | ⟨a, len, cap, m, n, D, Pl, rfl, hb, hl, hm, hmm, rfl, hx⟩
  · exact ⟨none, 0, 0, [], h0, GsAt.nil w, by omega⟩
  have hlm : len ≤ m := by rw [hmm]; split <;> omega
  obtain ⟨l, hll, hall⟩ := collect (fun i (g : PG) => (∀ r, r < 2 → w.cell? (a.add (i * 2 + r)) = (gc g)[r]?)) len (fun i hi => by
    obtain ⟨cs', h1, h2⟩ := hx i (by omega)
    have h1' : w.cells? base (a.add (i * 2)) 2 = some cs' := by
      rw [show Try.prog.cellsOf 52 = 2 from cells_g] at h1
      exact h1
    obtain ⟨_, _, hcell⟩ := World.cells?_some h1'
    obtain ⟨g, rfl⟩ := open_g h2
    refine ⟨g, fun r hr => ?_⟩
    have e0 := hcell r hr
    rw [Go.Deep.add_add] at e0
    rw [e0])
  refine ⟨some a, len, cap, l, rfl, ⟨hll, by rw [flat_len gc_len, hll], hl, hm, by simp, fun hp => ?_⟩, ?_⟩
  · obtain ⟨b, off, spot⟩ := a
    have h0 := (hall 0 (by omega)) 0 (by omega)
    have hspot : spot = none := by
      have : w.cell? ((⟨b, off, spot⟩ : Addr).add (0 * 2 + 0)) = some (.int .i64 (l[0]'(by omega)).level) := h0
      simpa [Addr.add] using World.cell?_spot this
    subst hspot
    refine ⟨b, off, rfl, fun j hj => ?_⟩
    have hd : j / 2 < l.length := by omega
    have hg := (hall (j / 2) hd) (j % 2) (by omega)
    rw [Addr.add_lit, show j / 2 * 2 + j % 2 = j by omega] at hg
    rw [hg, ← flat_get gc_len l (j / 2) (j % 2) hd (by omega), show j / 2 * 2 + j % 2 = j by omega]
  · simp only [DataW.weights, Try.underlying34] at hw
    have := hw _ (List.mem_cons_self ..)
    rw [show Try.prog.bytesOf 52 = 16 from bytes_g] at this
    simp at this
    omega
theorem open_fs {fuel : Nat} {cs : List Value} {x : DataW H × List MemPlace} (h : DataW.trod enc Try.prog w base sp held fuel 23 cs = some x) (hw : ∀ n ∈ x.1.weights Try.prog 23, n ≤ 140737488351232) :
    ∃ (a : Option Addr) (len cap : Nat) (l : List PF), cs = [.slice a len cap] ∧ FlAt w a len cap l ∧ len * 88 ≤ 140737488351232 ∧ ∀ f ∈ l, WfF f := by
  rcases Go.Deep.open_slice Try.underlying23 h with ⟨h0, rfl⟩ | ⟨a, len, cap, m, n, D, Pl, rfl, hb, hl, hm, hmm, rfl, hx⟩
  · exact ⟨none, 0, 0, [], h0, FlAt.nil w, by omega, by simp⟩
  have hlm : len ≤ m := by rw [hmm]; split <;> omega
  simp only [DataW.weights, Try.underlying23] at hw
  obtain ⟨l, hll, hall⟩ := collect (fun i (f : PF) => (∀ r, r < 9 → w.cell? (a.add (i * 9 + r)) = (fc f)[r]?) ∧ WfF f) len (fun i hi => by
    obtain ⟨cs', h1, h2⟩ := hx i (by omega)
    have h1' : w.cells? base (a.add (i * 9)) 9 = some cs' := by
      rw [show Try.prog.cellsOf 50 = 9 from cells_f] at h1
      exact h1
    obtain ⟨_, _, hcell⟩ := World.cells?_some h1'
    obtain ⟨f, rfl, g1, g2⟩ := open_f h2
    have hmem : D i ∈ (List.range len).map D := List.mem_map.2 ⟨i, by simpa using hi, rfl⟩
    have k1 := hw _ (List.mem_cons_of_mem _ (List.mem_append_left _ (weightsAll_mem hmem g1)))
    have k2 := hw _ (List.mem_cons_of_mem _ (List.mem_append_left _ (weightsAll_mem hmem g2)))
    rw [Array.length_toList] at k1 k2
    refine ⟨f, fun r hr => ?_, k1, k2⟩
    have e0 := hcell r hr
    rw [Go.Deep.add_add] at e0
    rw [e0])
  refine ⟨some a, len, cap, l, rfl, ⟨hll, by rw [flat_len fc_len, hll], hl, hm, by simp, fun hp => ?_⟩, ?_, fun f hf => ?_⟩
  · obtain ⟨b, off, spot⟩ := a
    have h0 := (hall 0 (by omega)).1 0 (by omega)
    have hspot : spot = none := by
      have : w.cell? ((⟨b, off, spot⟩ : Addr).add (0 * 9 + 0)) = some (.int .i64 (l[0]'(by omega)).level) := h0
      simpa [Addr.add] using World.cell?_spot this
    subst hspot
    refine ⟨b, off, rfl, fun j hj => ?_⟩
    have hd : j / 9 < l.length := by omega
    have hg := (hall (j / 9) hd).1 (j % 9) (by omega)
    rw [Addr.add_lit, show j / 9 * 9 + j % 9 = j by omega] at hg
    rw [hg, ← flat_get fc_len l (j / 9) (j % 9) hd (by omega), show j / 9 * 9 + j % 9 = j by omega]
  · have := hw _ (List.mem_cons_self ..)
    rw [show Try.prog.bytesOf 50 = 88 from bytes_f] at this
    simp at this
    omega
  · obtain ⟨i, hi, rfl⟩ := List.mem_iff_getElem.1 hf
    exact (hall i hi).2
theorem open_edit {r : Reach} {b0 : Nat} {v : Value} {d : DataW H} {ps : List MemPlace} (hval : Value.okWide Try.prog w r b0 TE v) (hd : DataW.Trod enc Try.prog w base sp held TE v d ps) (hw : ∀ n ∈ d.weights Try.prog TE, n ≤ 140737488351232) :
    ∃ (x : PE) (s : SE), v = .agg #[.int .u64 (x.log : Int), .int .u64 (x.next : Int), .int .u64 (x.last : Int), .slice s.a x.dels.length s.c, .slice s.a' x.adds.length s.c'] ∧ EdAt w x s ∧ WfE x ∧ x.dels.length * 16 ≤ 140737488351232 ∧ x.adds.length * 88 ≤ 140737488351232 := by
  obtain ⟨cs, rfl, hsz⟩ := okWide_struct Try.underlying36 hval
  rw [cells_e] at hsz
  obtain ⟨l⟩ := cs
  match l, hsz with
  | [c0, c1, c2, c3, c4], _ =>
  obtain ⟨fuel, hf⟩ := hd
  obtain ⟨y0, y1, y2, y3, y4, m, hy, _, h0, h1, h2, h3, h4⟩ := struct5 Try.underlying36 hf
  simp only at hy
  subst hy
  simp only [DataW.weights, Try.underlying36] at hw
  obtain ⟨q0, e0, _, w0⟩ := DataW.trod_int Try.underlying33 h0
  obtain ⟨q1, e1, _, w1⟩ := DataW.trod_int Try.underlying33 h1
  obtain ⟨q2, e2, _, w2⟩ := DataW.trod_int Try.underlying33 h2
  obtain ⟨a, n, c, gl, e3, hg, hgb⟩ := open_gs h3 (fun n hn => hw n (DataW.weights_mem_each (j := 3) (t := 34) (d := y3.1) rfl rfl _ hn))
  obtain ⟨a', n', c', fl, e4, hfl, hfb, hfw⟩ := open_fs h4 (fun n hn => hw n (DataW.weights_mem_each (j := 4) (t := 23) (d := y4.1) rfl rfl _ hn))
  simp [Value.cells, cells_u1, cells_sg, cells_sf] at e0 e1 e2 e3 e4
  subst e0 e1 e2 e3 e4
  obtain rfl := hg.size
  obtain rfl := hfl.size
  refine ⟨⟨q0.toNat, q1.toNat, q2.toNat, gl, fl⟩, ⟨a, c, a', c'⟩, ?_, ⟨hg, hfl⟩, hfw, hgb, hfb⟩
  rw [← u64_nat w0, ← u64_nat w1, ← u64_nat w2]
end
end Go.Proofs.Ytcdfgcjecmpjhaa
