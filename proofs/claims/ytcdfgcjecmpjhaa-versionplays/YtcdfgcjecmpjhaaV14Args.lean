/- Versions and rows of edits as arguments: what a reading of one gives. -/
import Derived.Test.YtcdfgcjecmpjhaaE13Args
import Derived.Test.YtcdfgcjecmpjhaaV14Mem
import Derived.OpenShut
namespace Go.Proofs.Ytcdfgcjecmpjhaa
set_option maxRecDepth 100000
open Go.ChangeShapes Go.WideShapes Go.RowKit
set_option linter.unusedVariables false
set_option linter.unusedSimpArgs false
theorem cells_v : Try.prog.cellsOf TVn = 4 := by kernel_rfl
theorem bytes_e : Try.prog.bytesOf TE = 72 := by kernel_rfl
/-- An edit's cells. -/
def ec (p : PE × SE) : List Value := [.int .u64 (p.1.log : Int), .int .u64 (p.1.next : Int), .int .u64 (p.1.last : Int), .slice p.2.a p.1.dels.length p.2.c, .slice p.2.a' p.1.adds.length p.2.c']
theorem ec_len (p : PE × SE) : (ec p).length = 5 := rfl
/-- The slice value reads as edits. -/
structure EsAt (w : World) (a : Option Addr) (n c : Nat) (l : List (PE × SE)) : Prop where
  size : l.length = n
  row : VsAt 5 w a n c (l.flatMap ec)
  each : ∀ e ∈ l, EdAt w e.1 e.2 ∧ WfE e.1 ∧ e.1.dels.length * 16 ≤ 140737488351232 ∧ e.1.adds.length * 88 ≤ 140737488351232
theorem cells_a4 : Try.prog.cellsOf 24 = 4 := by kernel_rfl
section
variable {H : Type} {enc : TypeId × Value → H} {w : World} {base : Nat} {sp : Nat → Bool} {held : Bool}
theorem open_arr {fuel : Nat} {cs : List Value} {x : DataW H × List MemPlace} (h : DataW.trod enc Try.prog w base sp held fuel 24 cs = some x) (hw : ∀ n ∈ x.1.weights Try.prog 24, n ≤ 140737488351232) :
    ∃ (v : PV) (s : SV), cs = [.slice (s.a 0) (v 0).length (s.c 0), .slice (s.a 1) (v 1).length (s.c 1), .slice (s.a 2) (v 2).length (s.c 2), .slice (s.a 3) (v 3).length (s.c 3)] ∧ VnAt w v s ∧ WfV v ∧ ∀ n, n < 4 → (v n).length * 88 ≤ 140737488351232 := by
  obtain ⟨xs, m, _, rfl, hl, hlen, hx⟩ := DataW.trod_array Try.underlying24 h
  rw [cells_a4] at hl
  match cs, hl, xs, hlen with
  | [c0, c1, c2, c3], _, [y0, y1, y2, y3], _ =>
  simp only [DataW.weights, Try.underlying24] at hw
  have hmem : ∀ y ∈ [y0, y1, y2, y3], ∀ n ∈ y.1.weights Try.prog 23, n ≤ 140737488351232 := fun y hy n hn => hw n (weightsAll_mem (List.mem_map.2 ⟨y, hy, rfl⟩) hn)
  have h0 := hx 0 (by omega)
  have h1 := hx 1 (by omega)
  have h2 := hx 2 (by omega)
  have h3 := hx 3 (by omega)
  rw [cells_sf] at h0 h1 h2 h3
  simp at h0 h1 h2 h3
  obtain ⟨a0, n0, k0, l0, e0, f0, b0, w0⟩ := open_fs h0 (hmem y0 (by simp))
  obtain ⟨a1, n1, k1, l1, e1, f1, b1, w1⟩ := open_fs h1 (hmem y1 (by simp))
  obtain ⟨a2, n2, k2, l2, e2, f2, b2, w2⟩ := open_fs h2 (hmem y2 (by simp))
  obtain ⟨a3, n3, k3, l3, e3, f3, b3, w3⟩ := open_fs h3 (hmem y3 (by simp))
  simp at e0 e1 e2 e3
  subst e0 e1 e2 e3
  obtain rfl := f0.size
  obtain rfl := f1.size
  obtain rfl := f2.size
  obtain rfl := f3.size
  refine ⟨fun n => match n with | 0 => l0 | 1 => l1 | 2 => l2 | _ => l3, ⟨fun n => match n with | 0 => a0 | 1 => a1 | 2 => a2 | _ => a3, fun n => match n with | 0 => k0 | 1 => k1 | 2 => k2 | _ => k3⟩, rfl, fun n hn => ?_, fun n hn => ?_, fun n hn => ?_⟩
  · exact four (P := fun n => FlAt w (match n with | 0 => a0 | 1 => a1 | 2 => a2 | _ => a3) (match n with | 0 => l0 | 1 => l1 | 2 => l2 | _ => l3).length (match n with | 0 => k0 | 1 => k1 | 2 => k2 | _ => k3) (match n with | 0 => l0 | 1 => l1 | 2 => l2 | _ => l3)) hn f0 f1 f2 f3
  · exact four (P := fun n => ∀ f ∈ (match n with | 0 => l0 | 1 => l1 | 2 => l2 | _ => l3), WfF f) hn w0 w1 w2 w3
  · exact four (P := fun n => (match n with | 0 => l0 | 1 => l1 | 2 => l2 | _ => l3).length * 88 ≤ 140737488351232) hn b0 b1 b2 b3
theorem open_version {r : Reach} {b0 : Nat} {v : Value} {d : DataW H} {ps : List MemPlace} (hval : Value.okWide Try.prog w r b0 TVn v) (hd : DataW.Trod enc Try.prog w base sp held TVn v d ps) (hw : ∀ n ∈ d.weights Try.prog TVn, n ≤ 140737488351232) :
    ∃ (x : PV) (s : SV), v = .agg #[.slice (s.a 0) (x 0).length (s.c 0), .slice (s.a 1) (x 1).length (s.c 1), .slice (s.a 2) (x 2).length (s.c 2), .slice (s.a 3) (x 3).length (s.c 3)] ∧ VnAt w x s ∧ WfV x ∧ ∀ n, n < 4 → (x n).length * 88 ≤ 140737488351232 := by
  obtain ⟨cs, rfl, hsz⟩ := okWide_struct Try.underlying26 hval
  rw [cells_v] at hsz
  obtain ⟨l⟩ := cs
  match l, hsz with
  | [c0, c1, c2, c3], _ =>
  obtain ⟨fuel, hf⟩ := hd
  obtain ⟨xs, m, _, hy, _, hlen, hx⟩ := DataW.trod_struct Try.underlying26 hf
  match xs, hlen with
  | [y0], _ =>
  obtain ⟨rfl, _⟩ := Prod.mk.inj hy
  have h0 := hx 0 _ rfl
  simp only [DataW.weights, Try.underlying26] at hw
  obtain ⟨x, s, e, h1, h2, h3⟩ := open_arr (w := w) (x := y0) (by simpa [Value.cells, cells_a4] using h0) (fun n hn => hw n (DataW.weights_mem_each (j := 0) (t := 24) (d := y0.1) rfl rfl _ hn))
  simp [Value.cells, cells_a4] at e
  obtain ⟨rfl, rfl, rfl, rfl⟩ := e
  exact ⟨x, s, rfl, h1, h2, h3⟩
theorem open_e {n : Nat} {cs : List Value} {y : DataW H × List MemPlace} (h : DataW.trod enc Try.prog w base sp held n TE cs = some y) (hw : ∀ n ∈ y.1.weights Try.prog TE, n ≤ 140737488351232) :
    ∃ (x : PE) (s : SE), cs = ec (x, s) ∧ EdAt w x s ∧ WfE x ∧ x.dels.length * 16 ≤ 140737488351232 ∧ x.adds.length * 88 ≤ 140737488351232 := by
  obtain ⟨y0, y1, y2, y3, y4, m, hy, hl, h0, h1, h2, h3, h4⟩ := struct5 Try.underlying36 h
  rw [cells_e] at hl
  match cs, hl with
  | [c0, c1, c2, c3, c4], _ =>
  rw [hy] at hw
  simp only [DataW.weights, Try.underlying36] at hw
  obtain ⟨q0, e0, _, w0⟩ := DataW.trod_int Try.underlying33 h0
  obtain ⟨q1, e1, _, w1⟩ := DataW.trod_int Try.underlying33 h1
  obtain ⟨q2, e2, _, w2⟩ := DataW.trod_int Try.underlying33 h2
  obtain ⟨a, n, c, gl, e3, hg, hgb⟩ := open_gs h3 (fun n hn => hw n (DataW.weights_mem_each (j := 3) (t := 34) (d := y3.1) rfl rfl _ hn))
  obtain ⟨a', n', c', fl, e4, hfl, hfb, hfw⟩ := open_fs h4 (fun n hn => hw n (DataW.weights_mem_each (j := 4) (t := 23) (d := y4.1) rfl rfl _ hn))
  simp [cells_u1, cells_sg, cells_sf] at e0 e1 e2 e3 e4
  subst e0 e1 e2 e3 e4
  obtain rfl := hg.size
  obtain rfl := hfl.size
  refine ⟨⟨q0.toNat, q1.toNat, q2.toNat, gl, fl⟩, ⟨a, c, a', c'⟩, ?_, ⟨hg, hfl⟩, hfw, hgb, hfb⟩
  unfold ec
  simp only
  rw [← u64_nat w0, ← u64_nat w1, ← u64_nat w2]
theorem open_edits {fuel : Nat} {cs : List Value} {x : DataW H × List MemPlace} (h : DataW.trod enc Try.prog w base sp held fuel 27 cs = some x) (hw : ∀ n ∈ x.1.weights Try.prog 27, n ≤ 140737488351232) :
    ∃ (a : Option Addr) (len cap : Nat) (l : List (PE × SE)), cs = [.slice a len cap] ∧ EsAt w a len cap l ∧ len * 72 ≤ 140737488351232 := by
  rcases Go.Deep.open_slice Try.underlying27 h with ⟨h0, rfl⟩ | ⟨a, len, cap, m, n, D, Pl, rfl, hb, hl, hm, hmm, rfl, hx⟩
  · exact ⟨none, 0, 0, [], h0, ⟨rfl, VsAt.nil _ _, by simp⟩, by omega⟩
  have hlm : len ≤ m := by rw [hmm]; split <;> omega
  simp only [DataW.weights, Try.underlying27] at hw
  obtain ⟨l, hll, hall⟩ := collect (fun i (e : PE × SE) => (∀ r, r < 5 → w.cell? (a.add (i * 5 + r)) = (ec e)[r]?) ∧ EdAt w e.1 e.2 ∧ WfE e.1 ∧ e.1.dels.length * 16 ≤ 140737488351232 ∧ e.1.adds.length * 88 ≤ 140737488351232) len (fun i hi => by
    obtain ⟨cs', h1, h2⟩ := hx i (by omega)
    have h1' : w.cells? base (a.add (i * 5)) 5 = some cs' := by
      rw [show Try.prog.cellsOf 36 = 5 from cells_e] at h1
      exact h1
    obtain ⟨_, _, hcell⟩ := World.cells?_some h1'
    have hmem : D i ∈ (List.range len).map D := List.mem_map.2 ⟨i, by simpa using hi, rfl⟩
    obtain ⟨x, s, rfl, g1, g2, g3, g4⟩ := open_e h2 (fun n hn => hw n (List.mem_cons_of_mem _ (List.mem_append_left _ (weightsAll_mem hmem hn))))
    refine ⟨(x, s), fun r hr => ?_, g1, g2, g3, g4⟩
    have e0 := hcell r hr
    rw [Go.Deep.add_add] at e0
    rw [e0])
  refine ⟨some a, len, cap, l, rfl, ⟨hll, ⟨by rw [flat_len ec_len, hll], hl, hm, by simp, fun hp => ?_⟩, fun e he => ?_⟩, ?_⟩
  · obtain ⟨b, off, spot⟩ := a
    have h0 := (hall 0 (by omega)).1 0 (by omega)
    have hspot : spot = none := by
      have : w.cell? ((⟨b, off, spot⟩ : Addr).add (0 * 5 + 0)) = some (.int .u64 (((l[0]'(by omega)).1.log : Nat) : Int)) := h0
      simpa [Addr.add] using World.cell?_spot this
    subst hspot
    refine ⟨b, off, rfl, fun j hj => ?_⟩
    have hd : j / 5 < l.length := by omega
    have hg := (hall (j / 5) hd).1 (j % 5) (by omega)
    rw [Addr.add_lit, show j / 5 * 5 + j % 5 = j by omega] at hg
    rw [hg, ← flat_get ec_len l (j / 5) (j % 5) hd (by omega), show j / 5 * 5 + j % 5 = j by omega]
  · obtain ⟨i, hi, rfl⟩ := List.mem_iff_getElem.1 he
    exact (hall i hi).2
  · have := hw _ (List.mem_cons_self ..)
    rw [show Try.prog.bytesOf 36 = 72 from bytes_e] at this
    simp at this
    omega
end
end Go.Proofs.Ytcdfgcjecmpjhaa
