/- Edits as arguments: what a reading of one gives. -/
import Derived.Test.YtmlfbihlbiikeaaGreatDoorQe00
import Derived.Test.YtmlfbihlbiikeaaGreatDoorQe02
import Derived.Deep.Slices
import Derived.Deep.Strs
import Derived.ChangeSame
import Derived.SizedLaws
import Derived.WideShapes
import Derived.Test.YtmlfbihlbiikeaaGreatDoorQe01
import Derived.WalkLawsBesides
set_option linter.unusedVariables false
set_option linter.unusedSimpArgs false
set_option maxRecDepth 100000
namespace Go.Proofs.YtmlfbihlbiikeaaGreatDoor
open Go.ChangeShapes Go.WideShapes Go.RowKit
theorem collect {α : Type} (P : Nat → α → Prop) : ∀ len : Nat, (∀ i, i < len → ∃ o, P i o) → ∃ l : List α, l.length = len ∧ ∀ i (hi : i < l.length), P i l[i]
 | 0, _ => ⟨[], rfl, fun i hi => absurd hi (Nat.not_lt_zero _)⟩
 | len + 1, h => by
  obtain ⟨l, hl, hall⟩ := collect P len fun i hi => h i (by omega)
  obtain ⟨o, ho⟩ := h len (by omega)
  refine ⟨l ++ [o], by simp [hl], fun i hi => ?_⟩
  by_cases hi' : i < l.length
  · rw [List.getElem_append_left hi']
    exact hall i hi'
  · have e : i = l.length := by simp at hi; omega
    subst e
    rw [List.getElem_append_right (Nat.le_refl _)]
    simp only [Nat.sub_self, List.getElem_cons_zero]
    rw [hl]
    exact ho
theorem cells_g : Tryz.prog.cellsOf TG = 2 := by kernel_rfl
theorem cells_f : Tryz.prog.cellsOf TF = 9 := by kernel_rfl
theorem cells_e : Tryz.prog.cellsOf TE = 5 := by kernel_rfl
theorem cells_ik : Tryz.prog.cellsOf 57 = 3 := by kernel_rfl
theorem cells_s1 : Tryz.prog.cellsOf 9 = 1 := by kernel_rfl
theorem cells_u1 : Tryz.prog.cellsOf 23 = 1 := by kernel_rfl
theorem cells_i1 : Tryz.prog.cellsOf 3 = 1 := by kernel_rfl
theorem cells_sg : Tryz.prog.cellsOf 63 = 1 := by kernel_rfl
theorem cells_sf : Tryz.prog.cellsOf 41 = 1 := by kernel_rfl
theorem bytes_g : Tryz.prog.bytesOf TG = 16 := by kernel_rfl
theorem bytes_f : Tryz.prog.bytesOf TF = 88 := by kernel_rfl
theorem u64_nat {q : Int} (h : (Lit.int .u64 q).wf = true) : q = ((q.toNat : Nat) : Int) := by
 simp [Lit.wf, IntKind.min, IntKind.max, IntKind.bits, IntKind.signed] at h
 omega
section
variable {H : Type} {enc : TypeId × Value → H} {w : World} {base : Nat} {sp : Nat → Bool} {held : Bool}
theorem open_g {n : Nat} {cs : List Value} {y : DataW H × List MemPlace} (h : DataW.trod enc Tryz.prog w base sp held n TG cs = some y) : ∃ g : PG, cs = gc g := by
 obtain ⟨y0, y1, m, _, hl, h0, h1⟩ := trod_struct2 Tryz.underlying135 h
 rw [cells_g] at hl
 match cs, hl with
 | [c0, c1], _ =>
 obtain ⟨l, e0, _, _⟩ := DataW.trod_int Tryz.underlying3 h0
 obtain ⟨q, e1, _, wq⟩ := DataW.trod_int Tryz.underlying23 h1
 simp [cells_i1, cells_u1] at e0 e1
 subst e0 e1
 refine ⟨⟨l, q.toNat⟩, ?_⟩
 unfold gc
 rw [← u64_nat wq]
theorem open_ik {n : Nat} {cs : List Value} {y : DataW H × List MemPlace} (h : DataW.trod enc Tryz.prog w base sp held n 57 cs = some y) :
 ∃ k : IK, cs = [.string k.user, .int .u64 (k.seq : Int), .int .i64 k.kind] ∧ y.1 = .agg [.lit (.string k.user.data.toList), .lit (.int .u64 (k.seq : Int)), .lit (.int .i64 k.kind)] := by
 obtain ⟨y0, y1, y2, m, rfl, hl, h0, h1, h2⟩ := Go.Deep.trod_struct3 Tryz.underlying57 h
 rw [cells_ik] at hl
 match cs, hl with
 | [c0, c1, c2], _ =>
 obtain ⟨s, e0, rfl, ws⟩ := DataW.trod_string Tryz.underlying9 h0
 obtain ⟨q, e1, rfl, wq⟩ := DataW.trod_int Tryz.underlying23 h1
 obtain ⟨k, e2, rfl, wk⟩ := DataW.trod_int Tryz.underlying3 h2
 simp [cells_s1, cells_u1, cells_i1] at e0 e1 e2
 subst e0 e1 e2
 have hq := u64_nat wq
 refine ⟨⟨s, q.toNat, k⟩, by rw [← hq], by rw [← hq]⟩
theorem struct5 {t : TypeId} {f0 f1 f2 f3 f4 : Field} {fuel : Nat} {cs : List Value} {x : DataW H × List MemPlace} (ht : Tryz.prog.underlying t = some (.struct #[f0, f1, f2, f3, f4])) (h : DataW.trod enc Tryz.prog w base sp held fuel t cs = some x) :
 ∃ y0 y1 y2 y3 y4 n, x.1 = .agg [y0.1, y1.1, y2.1, y3.1, y4.1] ∧ cs.length = Tryz.prog.cellsOf t ∧ DataW.trod enc Tryz.prog w base sp held n f0.type ((cs.drop f0.offset).take (Tryz.prog.cellsOf f0.type)) = some y0 ∧
  DataW.trod enc Tryz.prog w base sp held n f1.type ((cs.drop f1.offset).take (Tryz.prog.cellsOf f1.type)) = some y1 ∧ DataW.trod enc Tryz.prog w base sp held n f2.type ((cs.drop f2.offset).take (Tryz.prog.cellsOf f2.type)) = some y2 ∧
  DataW.trod enc Tryz.prog w base sp held n f3.type ((cs.drop f3.offset).take (Tryz.prog.cellsOf f3.type)) = some y3 ∧ DataW.trod enc Tryz.prog w base sp held n f4.type ((cs.drop f4.offset).take (Tryz.prog.cellsOf f4.type)) = some y4 := by
 obtain ⟨xs, n, _, rfl, hl, hlen, hf⟩ := DataW.trod_struct ht h
 match xs, hlen with
 | [y0, y1, y2, y3, y4], _ => exact ⟨y0, y1, y2, y3, y4, n, by simp, hl, by simpa using hf 0 f0 rfl, by simpa using hf 1 f1 rfl, by simpa using hf 2 f2 rfl, by simpa using hf 3 f3 rfl, by simpa using hf 4 f4 rfl⟩
theorem open_f {n : Nat} {cs : List Value} {y : DataW H × List MemPlace} (h : DataW.trod enc Tryz.prog w base sp held n TF cs = some y) :
 ∃ f : PF, cs = fc f ∧ f.small.user.data.toList.length ∈ y.1.weights Tryz.prog TF ∧ f.large.user.data.toList.length ∈ y.1.weights Tryz.prog TF := by
 obtain ⟨y0, y1, y2, y3, y4, m, hy, hl, h0, h1, h2, h3, h4⟩ := struct5 Tryz.underlying59 h
 rw [cells_f] at hl
 match cs, hl with
 | [c0, c1, c2, c3, c4, c5, c6, c7, c8], _ =>
 obtain ⟨l, e0, hy0, _⟩ := DataW.trod_int Tryz.underlying3 h0
 obtain ⟨q, e1, hy1, wq⟩ := DataW.trod_int Tryz.underlying23 h1
 obtain ⟨z, e2, hy2, _⟩ := DataW.trod_int Tryz.underlying3 h2
 obtain ⟨k, e3, hy3⟩ := open_ik h3
 obtain ⟨k', e4, hy4⟩ := open_ik h4
 simp [cells_i1, cells_u1, cells_ik] at e0 e1 e2 e3 e4
 obtain ⟨rfl, rfl, rfl⟩ := e3
 obtain ⟨rfl, rfl, rfl⟩ := e4
 subst e0 e1 e2
 refine ⟨⟨l, q.toNat, z, k, k'⟩, ?_, ?_, ?_⟩
 · unfold fc
   rw [← u64_nat wq]
 · rw [hy, hy3, hy4]
   simp [DataW.weights, Tryz.underlying59, Tryz.underlying57, DataW.weightsEach]
 · rw [hy, hy3, hy4]
   simp [DataW.weights, Tryz.underlying59, Tryz.underlying57, DataW.weightsEach]
theorem weightsAll_mem {P : Program} {e : TypeId} {n : Nat} : ∀ {l : List (DataW H)} {d : DataW H}, d ∈ l → n ∈ d.weights P e → n ∈ DataW.weightsAll P e l
 | x :: r, d, hd, hn => by
  rw [DataW.weightsAll]
  rcases List.mem_cons.1 hd with rfl | hd
  · exact List.mem_append_left _ hn
  · exact List.mem_append_right _ (weightsAll_mem hd hn)
theorem open_gs {fuel : Nat} {cs : List Value} {x : DataW H × List MemPlace} (h : DataW.trod enc Tryz.prog w base sp held fuel 63 cs = some x) (hw : ∀ n ∈ x.1.weights Tryz.prog 63, n ≤ 140737488351232) :
 ∃ (a : Option Addr) (len cap : Nat) (l : List PG), cs = [.slice a len cap] ∧ GsAt w a len cap l ∧ len * 16 ≤ 140737488351232 := by
 rcases Go.Deep.open_slice Tryz.underlying63 h with ⟨h0, rfl⟩ | ⟨a, len, cap, m, n, D, Pl, rfl, hb, hl, hm, hmm, rfl, hx⟩
 · exact ⟨none, 0, 0, [], h0, GsAt.nil w, by omega⟩
 have hlm : len ≤ m := by rw [hmm]; split <;> omega
 obtain ⟨l, hll, hall⟩ := collect (fun i (g : PG) => (∀ r, r < 2 → w.cell? (a.add (i * 2 + r)) = (gc g)[r]?)) len (fun i hi => by
  obtain ⟨cs', h1, h2⟩ := hx i (by omega)
  have h1' : w.cells? base (a.add (i * 2)) 2 = some cs' := by
   rw [show Tryz.prog.cellsOf 135 = 2 from cells_g] at h1
   exact h1
  obtain ⟨_, _, hcell⟩ := World.cells?_some h1'
  obtain ⟨g, rfl⟩ := open_g h2
  refine ⟨g, fun r hr => ?_⟩
  have e0 := hcell r hr
  rw [Go.Deep.add_add] at e0
  rw [e0])
 refine ⟨some a, len, cap, l, rfl, ⟨hll, by rw [flat_len gc_len, hll], hl, hm, by simp, fun hp => ?_⟩, ?_⟩
 · obtain ⟨b, off, spot⟩ := a
   have h0 := (hall 0 (by omega)) 0 (by omega)
   have hspot : spot = none := by
    have : w.cell? ((⟨b, off, spot⟩ : Addr).add (0 * 2 + 0)) = some (.int .i64 (l[0]'(by omega)).level) := h0
    simpa [Addr.add] using World.cell?_spot this
   subst hspot
   refine ⟨b, off, rfl, fun j hj => ?_⟩
   have hd : j / 2 < l.length := by omega
   have hg := (hall (j / 2) hd) (j % 2) (by omega)
   rw [Addr.add_lit, show j / 2 * 2 + j % 2 = j by omega] at hg
   rw [hg, ← flat_get gc_len l (j / 2) (j % 2) hd (by omega), show j / 2 * 2 + j % 2 = j by omega]
 · simp only [DataW.weights, Tryz.underlying63] at hw
   have := hw _ (List.mem_cons_self ..)
   rw [show Tryz.prog.bytesOf 135 = 16 from bytes_g] at this
   simp at this
   omega
theorem open_fs {fuel : Nat} {cs : List Value} {x : DataW H × List MemPlace} (h : DataW.trod enc Tryz.prog w base sp held fuel 41 cs = some x) (hw : ∀ n ∈ x.1.weights Tryz.prog 41, n ≤ 140737488351232) :
 ∃ (a : Option Addr) (len cap : Nat) (l : List PF), cs = [.slice a len cap] ∧ FlAt w a len cap l ∧ len * 88 ≤ 140737488351232 ∧ ∀ f ∈ l, WfF f := by
 rcases Go.Deep.open_slice Tryz.underlying41 h with ⟨h0, rfl⟩ | ⟨a, len, cap, m, n, D, Pl, rfl, hb, hl, hm, hmm, rfl, hx⟩
 · exact ⟨none, 0, 0, [], h0, FlAt.nil w, by omega, by simp⟩
 have hlm : len ≤ m := by rw [hmm]; split <;> omega
 simp only [DataW.weights, Tryz.underlying41] at hw
 obtain ⟨l, hll, hall⟩ := collect (fun i (f : PF) => (∀ r, r < 9 → w.cell? (a.add (i * 9 + r)) = (fc f)[r]?) ∧ WfF f) len (fun i hi => by
  obtain ⟨cs', h1, h2⟩ := hx i (by omega)
  have h1' : w.cells? base (a.add (i * 9)) 9 = some cs' := by
   rw [show Tryz.prog.cellsOf 59 = 9 from cells_f] at h1
   exact h1
  obtain ⟨_, _, hcell⟩ := World.cells?_some h1'
  obtain ⟨f, rfl, g1, g2⟩ := open_f h2
  have hmem : D i ∈ (List.range len).map D := List.mem_map.2 ⟨i, by simpa using hi, rfl⟩
  have k1 := hw _ (List.mem_cons_of_mem _ (List.mem_append_left _ (weightsAll_mem hmem g1)))
  have k2 := hw _ (List.mem_cons_of_mem _ (List.mem_append_left _ (weightsAll_mem hmem g2)))
  rw [Array.length_toList] at k1 k2
  refine ⟨f, fun r hr => ?_, k1, k2⟩
  have e0 := hcell r hr
  rw [Go.Deep.add_add] at e0
  rw [e0])
 refine ⟨some a, len, cap, l, rfl, ⟨hll, by rw [flat_len fc_len, hll], hl, hm, by simp, fun hp => ?_⟩, ?_, fun f hf => ?_⟩
 · obtain ⟨b, off, spot⟩ := a
   have h0 := (hall 0 (by omega)).1 0 (by omega)
   have hspot : spot = none := by
    have : w.cell? ((⟨b, off, spot⟩ : Addr).add (0 * 9 + 0)) = some (.int .i64 (l[0]'(by omega)).level) := h0
    simpa [Addr.add] using World.cell?_spot this
   subst hspot
   refine ⟨b, off, rfl, fun j hj => ?_⟩
   have hd : j / 9 < l.length := by omega
   have hg := (hall (j / 9) hd).1 (j % 9) (by omega)
   rw [Addr.add_lit, show j / 9 * 9 + j % 9 = j by omega] at hg
   rw [hg, ← flat_get fc_len l (j / 9) (j % 9) hd (by omega), show j / 9 * 9 + j % 9 = j by omega]
 · have := hw _ (List.mem_cons_self ..)
   rw [show Tryz.prog.bytesOf 59 = 88 from bytes_f] at this
   simp at this
   omega
 · obtain ⟨i, hi, rfl⟩ := List.mem_iff_getElem.1 hf
   exact (hall i hi).2
theorem open_edit {r : Reach} {b0 : Nat} {v : Value} {d : DataW H} {ps : List MemPlace} (hval : Value.okWide Tryz.prog w r b0 TE v) (hd : DataW.Trod enc Tryz.prog w base sp held TE v d ps) (hw : ∀ n ∈ d.weights Tryz.prog TE, n ≤ 140737488351232) :
 ∃ (x : PE) (s : SE), v = .agg #[.int .u64 (x.log : Int), .int .u64 (x.next : Int), .int .u64 (x.last : Int), .slice s.a x.dels.length s.c, .slice s.a' x.adds.length s.c'] ∧ EdAt w x s ∧ WfE x ∧ x.dels.length * 16 ≤ 140737488351232 ∧ x.adds.length * 88 ≤ 140737488351232 := by
 obtain ⟨cs, rfl, hsz⟩ := okWide_struct Tryz.underlying65 hval
 rw [cells_e] at hsz
 obtain ⟨l⟩ := cs
 match l, hsz with
 | [c0, c1, c2, c3, c4], _ =>
 obtain ⟨fuel, hf⟩ := hd
 obtain ⟨y0, y1, y2, y3, y4, m, hy, _, h0, h1, h2, h3, h4⟩ := struct5 Tryz.underlying65 hf
 simp only at hy
 subst hy
 simp only [DataW.weights, Tryz.underlying65] at hw
 obtain ⟨q0, e0, _, w0⟩ := DataW.trod_int Tryz.underlying23 h0
 obtain ⟨q1, e1, _, w1⟩ := DataW.trod_int Tryz.underlying23 h1
 obtain ⟨q2, e2, _, w2⟩ := DataW.trod_int Tryz.underlying23 h2
 obtain ⟨a, n, c, gl, e3, hg, hgb⟩ := open_gs h3 (fun n hn => hw n (DataW.weights_mem_each (j := 3) (t := 63) (d := y3.1) rfl rfl _ hn))
 obtain ⟨a', n', c', fl, e4, hfl, hfb, hfw⟩ := open_fs h4 (fun n hn => hw n (DataW.weights_mem_each (j := 4) (t := 41) (d := y4.1) rfl rfl _ hn))
 simp [Value.cells, cells_u1, cells_sg, cells_sf] at e0 e1 e2 e3 e4
 subst e0 e1 e2 e3 e4
 obtain rfl := hg.size
 obtain rfl := hfl.size
 refine ⟨⟨q0.toNat, q1.toNat, q2.toNat, gl, fl⟩, ⟨a, c, a', c'⟩, ?_, ⟨hg, hfl⟩, hfw, hgb, hfb⟩
 rw [← u64_nat w0, ← u64_nat w1, ← u64_nat w2]
end
end Go.Proofs.YtmlfbihlbiikeaaGreatDoor
namespace Go.Proofs.YtmlfbihlbiikeaaGreatDoor
open Go.RowKit
def gaveUp : Ending := .panicked [{ v := .iface 33 (.int .i64 133), recovered := false }]
theorem must_yes (w : World) : Calls Tryz.prog 143 #[.bool true] w fun e w' => e = .returned (.tuple #[]) ∧ w = w' := by
 go_enter Tryz.func143, Tryz.ntmps143
 go_wp2
 exact ⟨rfl, .tuple #[], by simp [results, Tryz.results143], rfl, rfl⟩
theorem must_no (w : World) : Calls Tryz.prog 143 #[.bool false] w fun e w' => e = gaveUp ∧ w = w' := by
 go_enter Tryz.func143, Tryz.ntmps143
 go_wp2
 exact ⟨rfl, rfl, rfl⟩
set_option maxHeartbeats 400000 in
theorem checkGone_any (l : Int) (n : Nat) (w : World) : Calls Tryz.prog 111 #[.agg #[.int .i64 l, .int .u64 (n : Int)]] w fun e w' => e = .returned (.int .i64 ((gErr l n : Nat) : Int)) ∧ Below w.heap.size w w' := by
 have hb : Below w.heap.size w (w.alloc (.cells #[.int .i64 l, .int .u64 (n : Int)] 135)) := (Below.refl _ _).alloc (Nat.le_refl _) _
 by_cases h1 : l < 0
 · have HE : Hid (gErr l n = 130) := by unfold gErr Hid; rw [if_pos (.inl h1)]
   go_enter Tryz.func111, Tryz.ntmps111
   go_wp2
   go_ret
   rw [HE.out]
   exact ⟨ret1 rfl, hb⟩
 · by_cases h2 : 4 ≤ l
   · have HE : Hid (gErr l n = 130) := by unfold gErr Hid; rw [if_pos (.inr h2)]
     go_enter Tryz.func111, Tryz.ntmps111
     go_wp2
     go_ret
     rw [HE.out]
     exact ⟨ret1 rfl, hb⟩
   · by_cases h3 : n < 1
     · have HE : Hid (gErr l n = 132) := by unfold gErr Hid; rw [if_neg (by omega), if_pos (.inl h3)]
       go_enter Tryz.func111, Tryz.ntmps111
       go_wp2
       go_ret
       rw [HE.out]
       exact ⟨ret1 rfl, hb⟩
     · by_cases h4 : 1099511627776 < n
       · have HE : Hid (gErr l n = 132) := by unfold gErr Hid; rw [if_neg (by omega), if_pos (.inr h4)]
         go_enter Tryz.func111, Tryz.ntmps111
         go_wp2
         go_ret
         rw [HE.out]
         exact ⟨ret1 rfl, hb⟩
       · have HE : Hid (gErr l n = 0) := by unfold gErr Hid; rw [if_neg (by omega), if_neg (by omega)]
         go_enter Tryz.func111, Tryz.ntmps111
         go_wp2
         go_ret
         rw [HE.out]
         exact ⟨ret1 rfl, hb⟩
end Go.Proofs.YtmlfbihlbiikeaaGreatDoor
namespace Go.Proofs.YtmlfbihlbiikeaaGreatDoor
open Go.RowKit
theorem Box.nine {w : World} {p : Nat} {f : PF} (h : Box w p TF (fA f)) : F9 w p 0 f := ⟨h.cell 0, h.cell 1, h.cell 2, h.cell 3, h.cell 4, h.cell 5, h.cell 6, h.cell 7, h.cell 8⟩
def kk (f : PF) : Array Value := #[.string f.small.user, .int .u64 (f.small.seq : Int), .int .i64 f.small.kind, .string f.large.user, .int .u64 (f.large.seq : Int), .int .i64 f.large.kind]
def keyAt (f : PF) (k : Nat) : IK := if k = 0 then f.small else f.large
theorem idx_keys (g c k : Nat) (hk : k < 2) (W : World) : (Instr.indexAt 235 (.slice (some ⟨g, 0, none⟩) 2 c) (.int .i64 (k : Int))).run Tryz.prog W = .ok (.pointer (some ⟨g, k * 3, none⟩)) W := by
 have h1 : (0 : Int) ≤ (k : Int) ∧ (k : Int) < ((2 : Nat) : Int) := by omega
 have hsz : (sizeOf (Tryz.prog.elem 235)).run Tryz.prog W = .ok 3 W := by kernel_rfl
 rw [run_indexAt_slice (P := Tryz.prog) (h := (by kernel_rfl : Tryz.prog.underlying 235 = some (.slice (Tryz.prog.elem 235)))), if_pos h1, hsz]
 simp [Result.andThen, Addr.add_lit]
set_option maxHeartbeats 1000000 in
theorem checkFile_any (f : PF) (w : World) (hw : WfF f) :
 Calls Tryz.prog 112 #[.agg #[.int .i64 f.level, .int .u64 (f.num : Int), .int .i64 f.size, .string f.small.user, .int .u64 (f.small.seq : Int), .int .i64 f.small.kind, .string f.large.user, .int .u64 (f.large.seq : Int), .int .i64 f.large.kind]] w fun e w' => e = .returned (.int .i64 ((f.err : Nat) : Int)) ∧ Below w.heap.size w w' := by
 have HW : Hid (Below w.heap.size w (w.alloc (.cells (fA f) TF)) ∧ Box (w.alloc (.cells (fA f) TF)) w.heap.size TF (fA f)) := ⟨(Below.refl _ _).alloc (Nat.le_refl _) _, Box.new _ _ _⟩
 have HF : Hid (WfF f) := hw
 have HG : Hid (∀ W, Calls Tryz.prog 111 #[.agg #[.int .i64 f.level, .int .u64 (f.num : Int)]] W fun e w' => e = .returned (.int .i64 ((gErr f.level f.num : Nat) : Int)) ∧ Below W.heap.size W w') := fun W => checkGone_any _ _ _
 have HE : Hid (f.err = if gErr f.level f.num ≠ 0 then gErr f.level f.num else if f.size < 1 ∨ 2147483647 < f.size then 132 else if f.small.err ≠ 0 then f.small.err else if f.large.err ≠ 0 then f.large.err else if f.large.cmp f.small < 0 then 132 else 0) := rfl
 generalize f.err = er at HE
 generalize gErr f.level f.num = ge at HG HE
 clear hw
 by_cases hg : ge = 0
 · subst hg
   have HE2 : Hid (er = if f.size < 1 ∨ 2147483647 < f.size then 132 else if f.small.err ≠ 0 then f.small.err else if f.large.err ≠ 0 then f.large.err else if f.large.cmp f.small < 0 then 132 else 0) := HE.out
   clear HE
   by_cases h1 : f.size < 1
   · go_enter Tryz.func112, Tryz.ntmps112
     go_wp2_with fail
     refine (HG.out _).mono ?_
     rintro _ w1 ⟨rfl, hb1⟩
     have H1 : Hid (Below w.heap.size w w1 ∧ Box w1 w.heap.size TF (fA f)) := ⟨HW.out.1.trans (hb1.mono HW.out.1.size), HW.out.2.kept (hb1.block _ HW.out.2.lt)⟩
     obtain ⟨c0, c1, c2, c3, c4, c5, c6, c7, c8⟩ := H1.out.2.nine
     clear hb1
     go_wp2
     go_ret
     rw [HE2.out, if_pos (.inl h1)]
     exact ⟨ret1 rfl, H1.out.1⟩
   · by_cases h2 : 2147483647 < f.size
     · go_enter Tryz.func112, Tryz.ntmps112
       go_wp2_with fail
       refine (HG.out _).mono ?_
       rintro _ w1 ⟨rfl, hb1⟩
       have H1 : Hid (Below w.heap.size w w1 ∧ Box w1 w.heap.size TF (fA f)) := ⟨HW.out.1.trans (hb1.mono HW.out.1.size), HW.out.2.kept (hb1.block _ HW.out.2.lt)⟩
       obtain ⟨c0, c1, c2, c3, c4, c5, c6, c7, c8⟩ := H1.out.2.nine
       clear hb1
       go_wp2
       go_ret
       rw [HE2.out, if_pos (.inr h2)]
       exact ⟨ret1 rfl, H1.out.1⟩
     · have HE3 : Hid (er = if f.small.err ≠ 0 then f.small.err else if f.large.err ≠ 0 then f.large.err else if f.large.cmp f.small < 0 then 132 else 0) := by have := HE2.out; rw [if_neg (by omega)] at this; exact this
       clear HE2
       go_enter Tryz.func112, Tryz.ntmps112
       go_wp2_with fail
       refine (HG.out _).mono ?_
       rintro _ w1 ⟨rfl, hb1⟩
       have H1 : Hid (Below w.heap.size w w1 ∧ Box w1 w.heap.size TF (fA f)) := ⟨HW.out.1.trans (hb1.mono HW.out.1.size), HW.out.2.kept (hb1.block _ HW.out.2.lt)⟩
       obtain ⟨c0, c1, c2, c3, c4, c5, c6, c7, c8⟩ := H1.out.2.nine
       clear hb1
       have HB : Hid (Below w.heap.size w (w1.alloc (.cells (kk f) 57)) ∧ Box (w1.alloc (.cells (kk f) 57)) w.heap.size TF (fA f) ∧ Box (w1.alloc (.cells (kk f) 57)) w1.heap.size 57 (kk f)) := ⟨H1.out.1.alloc H1.out.1.size _, H1.out.2.alloc _, Box.new _ _ _⟩
       go_wp2_with fail
       clear c0 c1 c2 c3 c4 c5 c6 c7 c8
       go_loopw [30] (fun x wr => ∃ k : Nat, k ≤ 2 ∧ x = .int .i64 (k : Int) ∧ Hid (Below w.heap.size w wr ∧ Box wr w.heap.size TF (fA f) ∧ Box wr w1.heap.size 57 (kk f) ∧ (0 < k → f.small.err = 0) ∧ (1 < k → f.large.err = 0))) (fun x _ => 2 - (intOf x).toNat)
       case atStart => exact ⟨0, by omega, rfl, HB.out.1, HB.out.2.1, HB.out.2.2, fun h => by omega, fun h => by omega⟩
       case round =>
        obtain ⟨k, hk, rfl, HR⟩ := hrel
        by_cases hk2 : k < 2
        · have hidx := fun W => idx_keys w1.heap.size 2 k hk2 W
          have HKE : Hid (k = 0 ∧ keyAt f k = f.small ∨ k = 1 ∧ keyAt f k = f.large) := by
           have : k = 0 ∨ k = 1 := by omega
           rcases this with rfl | rfl
           · exact .inl ⟨rfl, rfl⟩
           · exact .inr ⟨rfl, rfl⟩
          have hcs : wr.cell? ⟨w1.heap.size, k * 3, none⟩ = some (.string (keyAt f k).user) ∧ wr.cell? ⟨w1.heap.size, k * 3 + 1, none⟩ = some (.int .u64 ((keyAt f k).seq : Int)) ∧ wr.cell? ⟨w1.heap.size, k * 3 + 2, none⟩ = some (.int .i64 (keyAt f k).kind) := by
           rw [HR.out.2.2.1.cell, HR.out.2.2.1.cell, HR.out.2.2.1.cell]
           rcases HKE.out with ⟨rfl, e⟩ | ⟨rfl, e⟩ <;> rw [e] <;> exact ⟨rfl, rfl, rfl⟩
          have hsz : (keyAt f k).user.size ≤ 9223372036854775807 := by
           have := HF.out
           unfold WfF at this
           rcases HKE.out with ⟨_, e⟩ | ⟨_, e⟩ <;> rw [e] <;> omega
          obtain ⟨c0, c1, c2⟩ := hcs
          have HC : Hid (∀ W, Calls Tryz.prog 164 #[.agg #[.string (keyAt f k).user, .int .u64 ((keyAt f k).seq : Int), .int .i64 (keyAt f k).kind]] W fun e w' => e = .returned (.int .i64 (((keyAt f k).err : Nat) : Int)) ∧ Below W.heap.size W w') := fun W => check_any _ _ _ W hsz
          generalize keyAt f k = key at *
          clear hsz
          have HN : Hid (Below w.heap.size w (wr.alloc (.cells #[.string key.user, .int .u64 (key.seq : Int), .int .i64 key.kind] 57)) ∧ Box (wr.alloc (.cells #[.string key.user, .int .u64 (key.seq : Int), .int .i64 key.kind] 57)) w.heap.size TF (fA f) ∧ Box (wr.alloc (.cells #[.string key.user, .int .u64 (key.seq : Int), .int .i64 key.kind] 57)) w1.heap.size 57 (kk f)) := ⟨HR.out.1.alloc HR.out.1.size _, HR.out.2.1.alloc _, HR.out.2.2.1.alloc _⟩
          go_wp2_with fail
          refine (HC.out _).mono ?_
          rintro _ w2 ⟨rfl, hb2⟩
          have H2 : Hid (Below w.heap.size w w2 ∧ Box w2 w.heap.size TF (fA f) ∧ Box w2 w1.heap.size 57 (kk f)) := ⟨HN.out.1.trans (hb2.mono HN.out.1.size), HN.out.2.1.kept (hb2.block _ HN.out.2.1.lt), HN.out.2.2.kept (hb2.block _ HN.out.2.2.lt)⟩
          clear hb2 HN
          have HKE2 : Hid (k = 0 ∧ key.err = f.small.err ∨ k = 1 ∧ key.err = f.large.err) := by
           rcases HKE.out with ⟨h, e⟩ | ⟨h, e⟩
           · exact .inl ⟨h, by rw [e]⟩
           · exact .inr ⟨h, by rw [e]⟩
          generalize key.err = ke at HKE2
          by_cases hke : ke = 0
          · subst hke
            go_wp2
            go_roundw
            case rel =>
             refine ⟨k + 1, by omega, by go_num, H2.out.1, H2.out.2.1, H2.out.2.2, fun _ => ?_, fun _ => ?_⟩
             · rcases HKE2.out with ⟨rfl, e⟩ | ⟨rfl, e⟩
               · exact e.symm
               · exact HR.out.2.2.2.1 (by omega)
             · rcases HKE2.out with ⟨rfl, e⟩ | ⟨rfl, e⟩
               · omega
               · exact e.symm
            case measure => simp only [intOf]; omega
          · have hne : ((ke : Int) != 0) = true := by simp; omega
            go_wp2
            go_ret
            refine ⟨ret1 ?_, H2.out.1⟩
            rw [HE3.out]
            rcases HKE2.out with ⟨rfl, e⟩ | ⟨rfl, e⟩
            · rw [← e, if_pos hke]
              rfl
            · rw [if_neg (by rw [HR.out.2.2.2.1 (by omega)]; simp), ← e, if_pos hke]
              rfl
        · obtain ⟨c0, c1, c2, c3, c4, c5, c6, c7, c8⟩ := HR.out.2.1.nine
          have HC : Hid (∀ W, Calls Tryz.prog 165 #[.agg #[.string f.large.user, .int .u64 (f.large.seq : Int), .int .i64 f.large.kind], .agg #[.string f.small.user, .int .u64 (f.small.seq : Int), .int .i64 f.small.kind]] W fun e w' => e = .returned (.int .i64 (f.large.cmp f.small)) ∧ Below W.heap.size W w') := fun W => compare_any _ _ _ _ _ _ W
          go_wp2_with fail
          refine (HC.out _).mono ?_
          rintro _ w2 ⟨rfl, hb2⟩
          have H2 : Hid (Below w.heap.size w w2) := HR.out.1.trans (hb2.mono HR.out.1.size)
          clear hb2
          have HE4 : Hid (er = if f.large.cmp f.small < 0 then 132 else 0) := by
           have := HE3.out
           rw [if_neg (by rw [HR.out.2.2.2.1 (by omega)]; simp), if_neg (by rw [HR.out.2.2.2.2 (by omega)]; simp)] at this
           exact this
          clear HE3 HC
          generalize f.large.cmp f.small = cv at HE4
          by_cases hcv : cv < 0
          · go_wp2
            go_ret
            rw [HE4.out, if_pos hcv]
            exact ⟨ret1 rfl, H2.out⟩
          · go_wp2
            go_ret
            rw [HE4.out, if_neg (by omega)]
            exact ⟨ret1 rfl, H2.out⟩
 · have hne : ((ge : Int) != 0) = true := by simp; omega
   go_enter Tryz.func112, Tryz.ntmps112
   go_wp2_with fail
   refine (HG.out _).mono ?_
   rintro _ w1 ⟨rfl, hb1⟩
   have H1 : Hid (Below w.heap.size w w1) := HW.out.1.trans (hb1.mono HW.out.1.size)
   clear hb1
   go_wp2
   go_ret
   rw [HE.out, if_pos hg]
   exact ⟨ret1 rfl, H1.out⟩
end Go.Proofs.YtmlfbihlbiikeaaGreatDoor
namespace Go.Proofs.YtmlfbihlbiikeaaGreatDoor
open Go.RowKit
theorem Box.five {w : World} {p : Nat} {x : PE} {s : SE} (h : Box w p TE (eA x s)) : w.cell? ⟨p, 0, none⟩ = some (.int .u64 (x.log : Int)) ∧ w.cell? ⟨p, 1, none⟩ = some (.int .u64 (x.next : Int)) ∧ w.cell? ⟨p, 2, none⟩ = some (.int .u64 (x.last : Int)) ∧ w.cell? ⟨p, 3, none⟩ = some (.slice s.a x.dels.length s.c) ∧ w.cell? ⟨p, 4, none⟩ = some (.slice s.a' x.adds.length s.c') := ⟨h.cell 0, h.cell 1, h.cell 2, h.cell 3, h.cell 4⟩
theorem PE.err_many {x : PE} (h : 20000 < x.dels.length ∨ 100 < x.adds.length) : x.err = 131 := by unfold PE.err; rw [if_pos h]
theorem PE.err_file {x : PE} (h : ¬ (20000 < x.dels.length ∨ 100 < x.adds.length)) (h2 : 1099511627776 < x.log ∨ 1099511627776 < x.next) : x.err = 132 := by unfold PE.err; rw [if_neg h, if_pos h2]
theorem PE.err_seq {x : PE} (h : ¬ (20000 < x.dels.length ∨ 100 < x.adds.length)) (h2 : ¬ (1099511627776 < x.log ∨ 1099511627776 < x.next)) (h3 : 72057594037927935 < x.last) : x.err = 22 := by unfold PE.err; rw [if_neg h, if_neg h2, if_pos h3]
theorem PE.err_rest {x : PE} (h : ¬ (20000 < x.dels.length ∨ 100 < x.adds.length)) (h2 : ¬ (1099511627776 < x.log ∨ 1099511627776 < x.next)) (h3 : ¬ 72057594037927935 < x.last) : x.err = if errL PG.err x.dels ≠ 0 then errL PG.err x.dels else errL PF.err x.adds := by unfold PE.err; rw [if_neg h, if_neg h2, if_neg h3]
set_option maxHeartbeats 2000000 in
theorem echeck_any (x : PE) (s : SE) (w : World) (h : EdAt w x s) (hw : WfE x) :
 Calls Tryz.prog 65 #[.agg #[.int .u64 (x.log : Int), .int .u64 (x.next : Int), .int .u64 (x.last : Int), .slice s.a x.dels.length s.c, .slice s.a' x.adds.length s.c']] w fun e w' => e = .returned (.int .i64 ((x.err : Nat) : Int)) ∧ Below w.heap.size w w' := by
 have HW : Hid (Below w.heap.size w (w.alloc (.cells (eA x s) TE)) ∧ Box (w.alloc (.cells (eA x s) TE)) w.heap.size TE (eA x s)) := ⟨(Below.refl _ _).alloc (Nat.le_refl _) _, Box.new _ _ _⟩
 have HS : Hid (EdAt w x s ∧ WfE x) := ⟨h, hw⟩
 obtain ⟨c0, c1, c2, c3, c4⟩ := HW.out.2.five
 have hm := h.gs.row.max
 have hl := h.gs.row.le
 have hm' := h.fs.row.max
 have hl' := h.fs.row.le
 unfold maxLen at hm hm'
 clear h hw c0 c1 c2 c3 c4
 by_cases h1 : 20000 < x.dels.length
 · have HE : Hid (x.err = 131) := PE.err_many (.inl h1)
   go_enter Tryz.func65, Tryz.ntmps65
   go_wp2
   go_ret
   rw [HE.out]
   exact ⟨ret1 rfl, HW.out.1⟩
 by_cases h2 : 100 < x.adds.length
 · have HE : Hid (x.err = 131) := PE.err_many (.inr h2)
   go_enter Tryz.func65, Tryz.ntmps65
   go_wp2
   go_ret
   rw [HE.out]
   exact ⟨ret1 rfl, HW.out.1⟩
 by_cases h3 : 1099511627776 < x.log
 · have HE : Hid (x.err = 132) := PE.err_file (by omega) (.inl h3)
   go_enter Tryz.func65, Tryz.ntmps65
   go_wp2
   go_ret
   rw [HE.out]
   exact ⟨ret1 rfl, HW.out.1⟩
 by_cases h4 : 1099511627776 < x.next
 · have HE : Hid (x.err = 132) := PE.err_file (by omega) (.inr h4)
   go_enter Tryz.func65, Tryz.ntmps65
   go_wp2
   go_ret
   rw [HE.out]
   exact ⟨ret1 rfl, HW.out.1⟩
 by_cases h5 : 72057594037927935 < x.last
 · have HE : Hid (x.err = 22) := PE.err_seq (by omega) (by omega) h5
   go_enter Tryz.func65, Tryz.ntmps65
   go_wp2
   go_ret
   rw [HE.out]
   exact ⟨ret1 rfl, HW.out.1⟩
 have HE : Hid (x.err = if errL PG.err x.dels ≠ 0 then errL PG.err x.dels else errL PF.err x.adds) := PE.err_rest (by omega) (by omega) h5
 generalize x.err = er at HE
 go_enter Tryz.func65, Tryz.ntmps65
 go_wp2_with fail
 go_loopw [36] (fun i wr => ∃ k : Nat, k ≤ x.dels.length ∧ i = .int .i64 (k : Int) ∧ Hid (Below w.heap.size w wr ∧ Box wr w.heap.size TE (eA x s) ∧ errL PG.err x.dels = errL PG.err (x.dels.drop k))) (fun i _ => x.dels.length - (intOf i).toNat)
 case atStart =>
  refine ⟨0, Nat.zero_le _, rfl, HW.out.1, ?_, by simp⟩
  have := HW.out.2
  exact this
 case round =>
  obtain ⟨k, hk, rfl, HR⟩ := hrel
  by_cases hkn : k < x.dels.length
  · have hkl := hkn
    obtain ⟨b, o, hidx, hlt, hcs⟩ := HS.out.1.gs.at hkl
    obtain ⟨c0, c1⟩ := hcs wr HR.out.1
    have HST : Hid (errL PG.err x.dels = if (x.dels[k]).err ≠ 0 then (x.dels[k]).err else errL PG.err (x.dels.drop (k + 1))) := by
     show _ = _
     rw [HR.out.2.2, errL_step hkl]
    clear hcs
    generalize x.dels[k] = g at c0 c1 HST
    have HC : Hid (∀ W, Calls Tryz.prog 111 #[.agg #[.int .i64 g.level, .int .u64 (g.num : Int)]] W fun e w' => e = .returned (.int .i64 ((g.err : Nat) : Int)) ∧ Below W.heap.size W w') := fun W => checkGone_any _ _ _
    have HX : Hid (Below w.heap.size w (wr.alloc (.cells (gA g) TG)) ∧ Box (wr.alloc (.cells (gA g) TG)) w.heap.size TE (eA x s)) := ⟨HR.out.1.alloc HR.out.1.size _, HR.out.2.1.alloc _⟩
    go_wp2_with fail
    refine (HC.out _).mono ?_
    rintro _ w2 ⟨rfl, hb2⟩
    have H2 : Hid (Below w.heap.size w w2 ∧ Box w2 w.heap.size TE (eA x s)) := ⟨HX.out.1.trans (hb2.mono HX.out.1.size), HX.out.2.kept (hb2.block _ HX.out.2.lt)⟩
    clear hb2 HX HC
    generalize g.err = ge at HST
    by_cases hge : ge = 0
    · subst hge
      go_wp2
      go_roundw
      case rel => exact ⟨k + 1, hkn, by go_num, H2.out.1, H2.out.2, HST.out⟩
      case measure => simp only [intOf]; omega
    · have hne : ((ge : Int) != 0) = true := by simp; omega
      have HF : Hid (er = ge) := by
       have e : errL PG.err x.dels = ge := by rw [HST.out, if_pos hge]
       show er = ge
       rw [HE.out, e, if_pos hge]
      go_wp2
      go_ret
      rw [HF.out]
      exact ⟨ret1 rfl, H2.out.1⟩
  · have HE2 : Hid (er = errL PF.err x.adds) := by
     have e : errL PG.err x.dels = 0 := by rw [HR.out.2.2, errL_end (by omega)]
     show er = _
     rw [HE.out, e, if_neg (by simp)]
    obtain ⟨c0, c1, c2, c3, c4⟩ := HR.out.2.1.five
    go_wp2_with fail
    clear c0 c1 c2 c3 c4
    go_loopw [49] (fun i wy => ∃ k : Nat, k ≤ x.adds.length ∧ i = .int .i64 (k : Int) ∧ Hid (Below w.heap.size w wy ∧ errL PF.err x.adds = errL PF.err (x.adds.drop k))) (fun i _ => x.adds.length - (intOf i).toNat)
    case atStart => exact ⟨0, Nat.zero_le _, rfl, HR.out.1, by simp⟩
    case round =>
     obtain ⟨j, hj, rfl, HQ⟩ := hrel
     by_cases hjn : j < x.adds.length
     · have hjl := hjn
       obtain ⟨b, o, hidx, hlt, hcs⟩ := HS.out.1.fs.at hjl
       obtain ⟨c0, c1, c2, c3, c4, c5, c6, c7, c8⟩ := hcs wr HQ.out.1
       have HST : Hid (errL PF.err x.adds = if (x.adds[j]).err ≠ 0 then (x.adds[j]).err else errL PF.err (x.adds.drop (j + 1))) := by
        show _ = _
        rw [HQ.out.2, errL_step hjl]
       have hwf := HS.out.2 x.adds[j] (List.getElem_mem hjl)
       clear hcs
       generalize x.adds[j] = f at c0 c1 c2 c3 c4 c5 c6 c7 c8 HST hwf
       have HC : Hid (∀ W, Calls Tryz.prog 112 #[.agg #[.int .i64 f.level, .int .u64 (f.num : Int), .int .i64 f.size, .string f.small.user, .int .u64 (f.small.seq : Int), .int .i64 f.small.kind, .string f.large.user, .int .u64 (f.large.seq : Int), .int .i64 f.large.kind]] W fun e w' => e = .returned (.int .i64 ((f.err : Nat) : Int)) ∧ Below W.heap.size W w') := fun W => checkFile_any _ _ hwf
       have HX : Hid (Below w.heap.size w (wr.alloc (.cells (fA f) TF))) := HQ.out.1.alloc HQ.out.1.size _
       clear hwf
       go_wp2_with fail
       refine (HC.out _).mono ?_
       rintro _ w2 ⟨rfl, hb2⟩
       have H2 : Hid (Below w.heap.size w w2) := HX.out.trans (hb2.mono HX.out.size)
       clear hb2 HX HC
       generalize f.err = ge at HST
       by_cases hge : ge = 0
       · subst hge
         go_wp2
         go_roundw
         case rel => exact ⟨j + 1, hjn, by go_num, H2.out, HST.out⟩
         case measure => simp only [intOf]; omega
       · have hne : ((ge : Int) != 0) = true := by simp; omega
         have HF : Hid (er = ge) := by
          show er = ge
          rw [HE2.out, HST.out, if_pos hge]
         go_wp2
         go_ret
         rw [HF.out]
         exact ⟨ret1 rfl, H2.out⟩
     · have HF : Hid (er = 0) := by
        show er = 0
        rw [HE2.out, HQ.out.2, errL_end (by omega)]
       go_wp2
       go_ret
       rw [HF.out]
       exact ⟨ret1 rfl, HQ.out.1⟩
end Go.Proofs.YtmlfbihlbiikeaaGreatDoor
