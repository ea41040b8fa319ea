/- Versions in memory: four rows of files; rows of numbers. -/
import Derived.Test.YtmlfbihlbiikeaaGreatDoorQe04
import Derived.Deep.QuietTactic
import Derived.Test.YtmlfbihlbiikeaaGreatDoorQe03
import Derived.OpenShut
import Derived.Shelf.Strings.Prefix
import Derived.Shelf.Small.Wraps
import Derived.Shelf.Strings.Repeat
import Derived.Shelf.Strconv.Itoa1
import Derived.Shelf.Strconv.Itoa2
import Derived.Shelf.Pu.ErrVarParseUint
import Derived.Lib.ItoaMem
import Derived.Test.YtmlfbihlbiikeaaGreatDoorChecked
set_option linter.unusedVariables false
set_option linter.unusedSimpArgs false
set_option maxRecDepth 100000
namespace Go.Proofs.YtmlfbihlbiikeaaGreatDoor
open Go.RowKit
abbrev TVn : TypeId := 44
structure SV where
 a : Nat → Option Addr
 c : Nat → Nat
def vA (v : PV) (s : SV) : Array Value := #[.slice (s.a 0) (v 0).length (s.c 0), .slice (s.a 1) (v 1).length (s.c 1), .slice (s.a 2) (v 2).length (s.c 2), .slice (s.a 3) (v 3).length (s.c 3)]
def VnAt (w : World) (v : PV) (s : SV) : Prop := ∀ n, n < 4 → FlAt w (s.a n) (v n).length (s.c n) (v n)
def OwnV (w : World) (B : Nat) (v : PV) (s : SV) : Prop := ∀ n, n < 4 → OwnF w B (s.a n) (v n).length (s.c n) (v n)
def WfV (v : PV) : Prop := ∀ n, n < 4 → ∀ f ∈ v n, WfF f
theorem VnAt.below {w w' : World} {v : PV} {s : SV} (h : VnAt w v s) (hb : Below w.heap.size w w') : VnAt w' v s := fun n hn => (h n hn).below hb
theorem OwnV.at {w : World} {B : Nat} {v : PV} {s : SV} (h : OwnV w B v s) : VnAt w v s := fun n hn => (h n hn).fs
theorem OwnV.below {w w' : World} {B : Nat} {v : PV} {s : SV} (h : OwnV w B v s) (hb : Below w.heap.size w w') : OwnV w' B v s := fun n hn => (h n hn).below hb
def sv0 : SV := ⟨fun _ => none, fun _ => 0⟩
theorem OwnV.none (w : World) (B : Nat) : OwnV w B noV sv0 := fun n _ => OwnF.nil w B
theorem four {P : Nat → Prop} {k : Nat} (hk : k < 4) (h0 : P 0) (h1 : P 1) (h2 : P 2) (h3 : P 3) : P k := by
 have : k = 0 ∨ k = 1 ∨ k = 2 ∨ k = 3 := by omega
 rcases this with rfl | rfl | rfl | rfl
 · exact h0
 · exact h1
 · exact h2
 · exact h3
theorem idx_arr (v : PV) (s : SV) (k : Nat) (hk : k < 4) (W : World) : (Instr.index 42 (.agg #[.slice (s.a 0) (v 0).length (s.c 0), .slice (s.a 1) (v 1).length (s.c 1), .slice (s.a 2) (v 2).length (s.c 2), .slice (s.a 3) (v 3).length (s.c 3)]) (.int .i64 (k : Int))).run Tryz.prog W = .ok (.slice (s.a k) (v k).length (s.c k)) W := by
 refine four (P := fun k => (Instr.index 42 (.agg #[.slice (s.a 0) (v 0).length (s.c 0), .slice (s.a 1) (v 1).length (s.c 1), .slice (s.a 2) (v 2).length (s.c 2), .slice (s.a 3) (v 3).length (s.c 3)]) (.int .i64 (k : Int))).run Tryz.prog W = .ok (.slice (s.a k) (v k).length (s.c k)) W) hk ?_ ?_ ?_ ?_
 all_goals simp [go_sem, Tryz.underlying42]
 all_goals kernel_rfl
def cellsU (l : List Nat) : List Value := l.map fun (n : Nat) => Value.int .u64 ((n : Nat) : Int)
structure UsAt (w : World) (a : Option Addr) (n c : Nat) (l : List Nat) : Prop where
 size : l.length = n
 row : VsAt 1 w a n c (cellsU l)
structure OwnU (w : World) (B : Nat) (a : Option Addr) (n c : Nat) (l : List Nat) : Prop where
 size : l.length = n
 row : w.ownsRow B TU 1 (.slice a n c) n (cellsU l)
theorem infoU : (Tryz.prog.info? TU).map (fun i => (i.zero, i.size, i.bytes)) = some (some (.int .u64 0), 1, 8) := by kernel_rfl
theorem OwnU.us {w : World} {B : Nat} {a : Option Addr} {n c : Nat} {l : List Nat} (h : OwnU w B a n c l) : UsAt w a n c l := ⟨h.size, VsAt.ofOwn h.row (by simp [cellsU, h.size])⟩
theorem OwnU.nil (w : World) (B : Nat) : OwnU w B none 0 0 [] := ⟨rfl, World.ownsRow_nil _ _ _ 1⟩
theorem OwnU.alloc {w : World} {B : Nat} {a : Option Addr} {n c : Nat} {l : List Nat} (h : OwnU w B a n c l) (o : Obj) : OwnU (w.alloc o) B a n c l := ⟨h.size, h.row.alloc o⟩
theorem OwnU.ge {w : World} {B : Nat} {a : Option Addr} {n c : Nat} {l : List Nat} (h : OwnU w B a n c l) {k : Nat} (hk : blkOf a = some k) : B ≤ k := (h.row.lt k (by rw [own_blk]; exact hk)).1
theorem UsAt.one (W : World) (x : Nat) : UsAt (W.alloc (.cells #[.int .u64 (x : Int)] TU)) (some ⟨W.heap.size, 0, none⟩) 1 1 [x] := by
 refine ⟨rfl, rfl, Nat.le_refl _, by unfold maxLen; omega, by simp, fun _ => ⟨W.heap.size, 0, rfl, fun j hj => ?_⟩⟩
 rw [Nat.zero_add, (Box.new W TU #[.int .u64 (x : Int)]).cell, ← Array.getElem?_toList]
 simp [cellsU]
theorem cellsU_one (l : List Nat) : ∀ u ∈ cellsU l, u.oneCell' = true := by
 intro u hu
 obtain ⟨_, _, rfl⟩ := List.mem_map.1 hu
 rfl
theorem wpList_appU (w : World) {ops : Array Oper} {rest : List Oper} {o : Oper} {a : Act} {Q : Exit → Act → World → Prop} (hgd : o.guard = none) (s x : Operand)
 (ho : o.op = .call { callee := .builtin .append, args := #[s, x], argTypes := #[175, 175] })
 (B : Nat) (a1 : Option Addr) (n1 c1 : Nat) (l : List Nat) (hs : a.eval s = .slice a1 n1 c1) (hown : OwnU w B a1 n1 c1 l)
 (a2 : Option Addr) (n2 c2 : Nat) (m : List Nat) (hx : a.eval x = .slice a2 n2 c2) (hsrc : UsAt w a2 n2 c2 m)
 (hb : (n1 + n2) * 8 ≤ 140737488355328) (hB : B ≤ w.heap.size)
 (h : ∀ a' c' w', OwnU w' B a' (n1 + n2) c' (l ++ m) → Below B w w' → w.grownBy w' (blkOf a1) → wpList Tryz.prog ops Q rest (a.put o.dst (.slice a' (n1 + n2) c')) w') :
 wpList Tryz.prog ops Q (o :: rest) a w := by
 have hm := hsrc.size
 have hl := hown.size
 refine wpList_appV w hgd s x _ TU ho Tryz.underlying175 _ 1 8 infoU rfl (by decide) B a1 n1 c1 _ hs hown.row a2 n2 c2 (cellsU m) hx (fun e => ?_) (by simp [cellsU, hm]) hsrc.row.src (cellsU_one m) (by unfold maxLen; omega) hb hB (fun a' c' w' hr hb hg => h a' c' w' ⟨by rw [List.length_append]; omega, by rw [cellsU, List.map_append]; exact hr⟩ hb hg)
 have := hsrc.row.bare e
 have := hsrc.row.le
 omega
theorem UsAt.at {w : World} {a : Option Addr} {n c : Nat} {l : List Nat} (h : UsAt w a n c l) {k : Nat} (hk : k < l.length) : ∃ b o : Nat, (∀ W : World, (Instr.indexAt 175 (.slice a n c) (.int .i64 (k : Int))).run Tryz.prog W = .ok (.pointer (some ⟨b, o, none⟩)) W) ∧ b < w.heap.size ∧ (∀ W : World, Below w.heap.size w W → W.cell? ⟨b, o, none⟩ = some (.int .u64 (l[k] : Int))) := by
 have hs := h.size
 obtain ⟨b, off, rfl, hc⟩ := h.row.here (by omega)
 have e0 := hc k (by omega)
 have e1 : (cellsU l)[k]? = some (.int .u64 (l[k] : Int)) := by simp [cellsU, hk]
 rw [e1] at e0
 have hlt : b < w.heap.size := World.block_lt_of_cell? w _ e0
 refine ⟨b, off + k, fun W => ?_, hlt, fun W hW => by rw [hW.cell hlt]; exact e0⟩
 have h1 : (0 : Int) ≤ (k : Int) ∧ (k : Int) < (n : Int) := by omega
 have hsz : (sizeOf (Tryz.prog.elem 175)).run Tryz.prog W = .ok 1 W := by kernel_rfl
 rw [run_indexAt_slice (P := Tryz.prog) (h := (by kernel_rfl : Tryz.prog.underlying 175 = some (.slice (Tryz.prog.elem 175)))), if_pos h1, hsz]
 simp [Result.andThen, Addr.add_lit]
theorem Box.fourV {w : World} {p : Nat} {t : TypeId} {v : PV} {s : SV} (h : Box w p t (vA v s)) : w.cell? ⟨p, 0, none⟩ = some (.slice (s.a 0) (v 0).length (s.c 0)) ∧ w.cell? ⟨p, 1, none⟩ = some (.slice (s.a 1) (v 1).length (s.c 1)) ∧ w.cell? ⟨p, 2, none⟩ = some (.slice (s.a 2) (v 2).length (s.c 2)) ∧ w.cell? ⟨p, 3, none⟩ = some (.slice (s.a 3) (v 3).length (s.c 3)) := ⟨h.cell 0, h.cell 1, h.cell 2, h.cell 3⟩
structure Bel (w : World) where
 now : World
 h : Below w.heap.size w now
theorem wp_region_bel {id : Nat} {Q : Exit → Act → World → Prop} {a : Act} {w : World} {l : List Oper} (hm : Tryz.prog.follows .mixedOrders = true) (hB : Region.lexB .any l.toArray = true)
 (h : wpQuiet Tryz.prog l.toArray (fun w' => ∃ p : Bel w, w' = p.now) (fun a' => ∀ w', (∃ p : Bel w, w' = p.now) → Q .normal a' w') l a) : (Code.region id l.toArray true).wp Tryz.prog Q a w :=
 wp_region_quiet (C := fun w' => ∃ p : Bel w, w' = p.now) hm hB ⟨⟨w.drew, (Below.refl _ _).drew⟩, rfl⟩ (by simpa using h)
theorem bel_call {f : FuncId} {args : Array Value} {w : World} {v : Value} {p : Bel w} (h : Calls Tryz.prog f args p.now fun e x => e = .returned v ∧ Below p.now.heap.size p.now x) : Calls Tryz.prog f args p.now fun e x => e = .returned v ∧ ∃ p' : Bel w, x = p'.now :=
 h.mono fun _ x ⟨he, hb⟩ => ⟨he, ⟨x, p.h.trans (hb.mono p.h.size)⟩, rfl⟩
end Go.Proofs.YtmlfbihlbiikeaaGreatDoor
namespace Go.Proofs.YtmlfbihlbiikeaaGreatDoor
open Go.ChangeShapes Go.WideShapes Go.RowKit
theorem bytes_e : Tryz.prog.bytesOf TE = 72 := by kernel_rfl
def ec (p : PE × SE) : List Value := [.int .u64 (p.1.log : Int), .int .u64 (p.1.next : Int), .int .u64 (p.1.last : Int), .slice p.2.a p.1.dels.length p.2.c, .slice p.2.a' p.1.adds.length p.2.c']
theorem ec_len (p : PE × SE) : (ec p).length = 5 := rfl
structure EsAt (w : World) (a : Option Addr) (n c : Nat) (l : List (PE × SE)) : Prop where
 size : l.length = n
 row : VsAt 5 w a n c (l.flatMap ec)
 each : ∀ e ∈ l, EdAt w e.1 e.2 ∧ WfE e.1 ∧ e.1.dels.length * 16 ≤ 140737488351232 ∧ e.1.adds.length * 88 ≤ 140737488351232
section
variable {H : Type} {enc : TypeId × Value → H} {w : World} {base : Nat} {sp : Nat → Bool} {held : Bool}
theorem open_e {n : Nat} {cs : List Value} {y : DataW H × List MemPlace} (h : DataW.trod enc Tryz.prog w base sp held n TE cs = some y) (hw : ∀ n ∈ y.1.weights Tryz.prog TE, n ≤ 140737488351232) :
 ∃ (x : PE) (s : SE), cs = ec (x, s) ∧ EdAt w x s ∧ WfE x ∧ x.dels.length * 16 ≤ 140737488351232 ∧ x.adds.length * 88 ≤ 140737488351232 := by
 obtain ⟨y0, y1, y2, y3, y4, m, hy, hl, h0, h1, h2, h3, h4⟩ := struct5 Tryz.underlying65 h
 rw [cells_e] at hl
 match cs, hl with
 | [c0, c1, c2, c3, c4], _ =>
 rw [hy] at hw
 simp only [DataW.weights, Tryz.underlying65] at hw
 obtain ⟨q0, e0, _, w0⟩ := DataW.trod_int Tryz.underlying23 h0
 obtain ⟨q1, e1, _, w1⟩ := DataW.trod_int Tryz.underlying23 h1
 obtain ⟨q2, e2, _, w2⟩ := DataW.trod_int Tryz.underlying23 h2
 obtain ⟨a, n, c, gl, e3, hg, hgb⟩ := open_gs h3 (fun n hn => hw n (DataW.weights_mem_each (j := 3) (t := 63) (d := y3.1) rfl rfl _ hn))
 obtain ⟨a', n', c', fl, e4, hfl, hfb, hfw⟩ := open_fs h4 (fun n hn => hw n (DataW.weights_mem_each (j := 4) (t := 41) (d := y4.1) rfl rfl _ hn))
 simp [cells_u1, cells_sg, cells_sf] at e0 e1 e2 e3 e4
 subst e0 e1 e2 e3 e4
 obtain rfl := hg.size
 obtain rfl := hfl.size
 refine ⟨⟨q0.toNat, q1.toNat, q2.toNat, gl, fl⟩, ⟨a, c, a', c'⟩, ?_, ⟨hg, hfl⟩, hfw, hgb, hfb⟩
 unfold ec
 simp only
 rw [← u64_nat w0, ← u64_nat w1, ← u64_nat w2]
theorem open_edits {fuel : Nat} {cs : List Value} {x : DataW H × List MemPlace} (h : DataW.trod enc Tryz.prog w base sp held fuel 52 cs = some x) (hw : ∀ n ∈ x.1.weights Tryz.prog 52, n ≤ 140737488351232) :
 ∃ (a : Option Addr) (len cap : Nat) (l : List (PE × SE)), cs = [.slice a len cap] ∧ EsAt w a len cap l ∧ len * 72 ≤ 140737488351232 := by
 rcases Go.Deep.open_slice Tryz.underlying52 h with ⟨h0, rfl⟩ | ⟨a, len, cap, m, n, D, Pl, rfl, hb, hl, hm, hmm, rfl, hx⟩
 · exact ⟨none, 0, 0, [], h0, ⟨rfl, VsAt.nil _ _, by simp⟩, by omega⟩
 have hlm : len ≤ m := by rw [hmm]; split <;> omega
 simp only [DataW.weights, Tryz.underlying52] at hw
 obtain ⟨l, hll, hall⟩ := collect (fun i (e : PE × SE) => (∀ r, r < 5 → w.cell? (a.add (i * 5 + r)) = (ec e)[r]?) ∧ EdAt w e.1 e.2 ∧ WfE e.1 ∧ e.1.dels.length * 16 ≤ 140737488351232 ∧ e.1.adds.length * 88 ≤ 140737488351232) len (fun i hi => by
  obtain ⟨cs', h1, h2⟩ := hx i (by omega)
  have h1' : w.cells? base (a.add (i * 5)) 5 = some cs' := by
   rw [show Tryz.prog.cellsOf 65 = 5 from cells_e] at h1
   exact h1
  obtain ⟨_, _, hcell⟩ := World.cells?_some h1'
  have hmem : D i ∈ (List.range len).map D := List.mem_map.2 ⟨i, by simpa using hi, rfl⟩
  obtain ⟨x, s, rfl, g1, g2, g3, g4⟩ := open_e h2 (fun n hn => hw n (List.mem_cons_of_mem _ (List.mem_append_left _ (weightsAll_mem hmem hn))))
  refine ⟨(x, s), fun r hr => ?_, g1, g2, g3, g4⟩
  have e0 := hcell r hr
  rw [Go.Deep.add_add] at e0
  rw [e0])
 refine ⟨some a, len, cap, l, rfl, ⟨hll, ⟨by rw [flat_len ec_len, hll], hl, hm, by simp, fun hp => ?_⟩, fun e he => ?_⟩, ?_⟩
 · obtain ⟨b, off, spot⟩ := a
   have h0 := (hall 0 (by omega)).1 0 (by omega)
   have hspot : spot = none := by
    have : w.cell? ((⟨b, off, spot⟩ : Addr).add (0 * 5 + 0)) = some (.int .u64 (((l[0]'(by omega)).1.log : Nat) : Int)) := h0
    simpa [Addr.add] using World.cell?_spot this
   subst hspot
   refine ⟨b, off, rfl, fun j hj => ?_⟩
   have hd : j / 5 < l.length := by omega
   have hg := (hall (j / 5) hd).1 (j % 5) (by omega)
   rw [Addr.add_lit, show j / 5 * 5 + j % 5 = j by omega] at hg
   rw [hg, ← flat_get ec_len l (j / 5) (j % 5) hd (by omega), show j / 5 * 5 + j % 5 = j by omega]
 · obtain ⟨i, hi, rfl⟩ := List.mem_iff_getElem.1 he
   exact (hall i hi).2
 · have := hw _ (List.mem_cons_self ..)
   rw [show Tryz.prog.bytesOf 65 = 72 from bytes_e] at this
   simp at this
   omega
end
end Go.Proofs.YtmlfbihlbiikeaaGreatDoor
namespace Go.Proofs.YtmlfbihlbiikeaaGreatDoor
open Go.Shelf
def tpL_ren : Go.Shelf.Ren := ⟨fun | 101 => 80 | 208 => 131 | 206 => 177 | n => n, fun | 9 => 9 | 4 => 4 | 3 => 3 | n => n, fun | n => n⟩
theorem tpL : Go.Proofs.Lays.n101 Tryz.prog tpL_ren := {
 mixed := by kernel_rfl
 f101 := Tryz.func80.trans (congrArg some (by kernel_rfl))
 f206 := Tryz.func177.trans (congrArg some (by kernel_rfl))
 f208 := Tryz.func131.trans (congrArg some (by kernel_rfl))
 t3 := Tryz.underlying3
 a3 := Tryz.isAgg3
 z3 := Tryz.sizeOf3
 v3 := Tryz.zeroValue3
 t4 := Tryz.underlying4
 a4 := Tryz.isAgg4
 z4 := Tryz.sizeOf4
 v4 := Tryz.zeroValue4
 t9 := Tryz.underlying9
 a9 := Tryz.isAgg9
 z9 := Tryz.sizeOf9
 v9 := Tryz.zeroValue9 }
def tsL_ren : Go.Shelf.Ren := ⟨fun | 102 => 79 | 209 => 130 | 207 => 138 | n => n, fun | 9 => 9 | 4 => 4 | 3 => 3 | n => n, fun | n => n⟩
theorem tsL : Go.Proofs.Lays.n102 Tryz.prog tsL_ren := {
 mixed := by kernel_rfl
 f102 := Tryz.func79.trans (congrArg some (by kernel_rfl))
 f207 := Tryz.func138.trans (congrArg some (by kernel_rfl))
 f209 := Tryz.func130.trans (congrArg some (by kernel_rfl))
 t3 := Tryz.underlying3
 a3 := Tryz.isAgg3
 z3 := Tryz.sizeOf3
 v3 := Tryz.zeroValue3
 t4 := Tryz.underlying4
 a4 := Tryz.isAgg4
 z4 := Tryz.sizeOf4
 v4 := Tryz.zeroValue4
 t9 := Tryz.underlying9
 a9 := Tryz.isAgg9
 z9 := Tryz.sizeOf9
 v9 := Tryz.zeroValue9 }
def csL_ren : Go.Shelf.Ren := ⟨fun | 104 => 47 | 211 => 86 | 207 => 138 | n => n, fun | 9 => 9 | 4 => 4 | 24 => 113 | 3 => 3 | n => n, fun | n => n⟩
theorem csL : Go.Proofs.Lays.n104 Tryz.prog csL_ren := {
 mixed := by kernel_rfl
 f104 := Tryz.func47.trans (congrArg some (by kernel_rfl))
 f207 := Tryz.func138.trans (congrArg some (by kernel_rfl))
 f211 := Tryz.func86.trans (congrArg some (by kernel_rfl))
 t3 := Tryz.underlying3
 a3 := Tryz.isAgg3
 z3 := Tryz.sizeOf3
 v3 := Tryz.zeroValue3
 t4 := Tryz.underlying4
 a4 := Tryz.isAgg4
 z4 := Tryz.sizeOf4
 v4 := Tryz.zeroValue4
 t9 := Tryz.underlying9
 a9 := Tryz.isAgg9
 z9 := Tryz.sizeOf9
 v9 := Tryz.zeroValue9
 t24 := Tryz.underlying113
 a24 := Tryz.isAgg113
 z24 := Tryz.sizeOf113
 v24 := Tryz.zeroValue113 }
def repL_ren : Go.Shelf.Ren := ⟨fun | 105 => 77 | 212 => 122 | 99 => 123 | 165 => 124 | 166 => 125 | 170 => 126 | 169 => 127 | 263 => 175 | 264 => 176 | 206 => 177 | 240 => 178 | 241 => 179 | 276 => 219 | 277 => 220 | n => n, fun | 9 => 9 | 3 => 3 | 4 => 4 | 20 => 20 | 0 => 0 | 46 => 190 | 109 => 191 | 5 => 5 | 72 => 196 | 76 => 197 | 51 => 220 | 146 => 245 | 53 => 23 | 148 => 247 | 70 => 194 | 37 => 29 | 75 => 146 | 127 => 249 | 164 => 280 | 80 => 200 | n => n, fun | n => n⟩
theorem repL : Go.Proofs.Lays.n105 Tryz.prog repL_ren := {
 mixed := by kernel_rfl
 f99 := Tryz.func123.trans (congrArg some (by kernel_rfl))
 f105 := Tryz.func77.trans (congrArg some (by kernel_rfl))
 f165 := Tryz.func124.trans (congrArg some (by kernel_rfl))
 f166 := Tryz.func125.trans (congrArg some (by kernel_rfl))
 f169 := Tryz.func127.trans (congrArg some (by kernel_rfl))
 f170 := Tryz.func126.trans (congrArg some (by kernel_rfl))
 f206 := Tryz.func177.trans (congrArg some (by kernel_rfl))
 f212 := Tryz.func122.trans (congrArg some (by kernel_rfl))
 f240 := Tryz.func178.trans (congrArg some (by kernel_rfl))
 f241 := Tryz.func179.trans (congrArg some (by kernel_rfl))
 f263 := Tryz.func175.trans (congrArg some (by kernel_rfl))
 f264 := Tryz.func176.trans (congrArg some (by kernel_rfl))
 f276 := Tryz.func219.trans (congrArg some (by kernel_rfl))
 f277 := Tryz.func220.trans (congrArg some (by kernel_rfl))
 t0 := Tryz.underlying0
 a0 := Tryz.isAgg0
 z0 := Tryz.sizeOf0
 v0 := Tryz.zeroValue0
 t3 := Tryz.underlying3
 a3 := Tryz.isAgg3
 z3 := Tryz.sizeOf3
 v3 := Tryz.zeroValue3
 t4 := Tryz.underlying4
 a4 := Tryz.isAgg4
 z4 := Tryz.sizeOf4
 v4 := Tryz.zeroValue4
 t5 := Tryz.underlying5
 a5 := Tryz.isAgg5
 z5 := Tryz.sizeOf5
 v5 := Tryz.zeroValue5
 t9 := Tryz.underlying9
 a9 := Tryz.isAgg9
 z9 := Tryz.sizeOf9
 v9 := Tryz.zeroValue9
 t20 := Tryz.underlying20
 a20 := Tryz.isAgg20
 z20 := Tryz.sizeOf20
 v20 := Tryz.zeroValue20
 t37 := Tryz.underlying29
 a37 := Tryz.isAgg29
 z37 := Tryz.sizeOf29
 v37 := Tryz.zeroValue29
 t46 := Tryz.underlying190
 a46 := Tryz.isAgg190
 z46 := Tryz.sizeOf190
 v46 := Tryz.zeroValue190
 t51 := Tryz.underlying220
 a51 := Tryz.isAgg220
 z51 := Tryz.sizeOf220
 v51 := Tryz.zeroValue220
 t53 := Tryz.underlying23
 a53 := Tryz.isAgg23
 z53 := Tryz.sizeOf23
 v53 := Tryz.zeroValue23
 t70 := Tryz.underlying194
 a70 := Tryz.isAgg194
 z70 := Tryz.sizeOf194
 v70 := Tryz.zeroValue194
 t72 := Tryz.underlying196
 a72 := Tryz.isAgg196
 z72 := Tryz.sizeOf196
 v72 := Tryz.zeroValue196
 t75 := Tryz.underlying146
 a75 := Tryz.isAgg146
 z75 := Tryz.sizeOf146
 v75 := Tryz.zeroValue146
 t76 := Tryz.underlying197
 a76 := Tryz.isAgg197
 z76 := Tryz.sizeOf197
 v76 := Tryz.zeroValue197
 t109 := Tryz.underlying191
 a109 := Tryz.isAgg191
 z109 := Tryz.sizeOf191
 v109 := Tryz.zeroValue191
 t127 := Tryz.underlying249
 a127 := Tryz.isAgg249
 z127 := Tryz.sizeOf249
 v127 := Tryz.zeroValue249
 t146 := Tryz.underlying245
 a146 := Tryz.isAgg245
 z146 := Tryz.sizeOf245
 v146 := Tryz.zeroValue245
 t148 := Tryz.underlying247
 a148 := Tryz.isAgg247
 z148 := Tryz.sizeOf247
 v148 := Tryz.zeroValue247
 t164 := Tryz.underlying280
 a164 := Tryz.isAgg280
 z164 := Tryz.sizeOf280
 v164 := Tryz.zeroValue280 }
def smallL_ren : Go.Shelf.Ren := ⟨fun | 283 => 132 | n => n, fun | 3 => 3 | 9 => 9 | 4 => 4 | n => n, fun | n => n⟩
theorem smallL : Go.Proofs.Lays.n283 Tryz.prog smallL_ren := {
 mixed := by kernel_rfl
 f283 := Tryz.func132.trans (congrArg some (by kernel_rfl))
 t3 := Tryz.underlying3
 a3 := Tryz.isAgg3
 z3 := Tryz.sizeOf3
 v3 := Tryz.zeroValue3
 t4 := Tryz.underlying4
 a4 := Tryz.isAgg4
 z4 := Tryz.sizeOf4
 v4 := Tryz.zeroValue4
 t9 := Tryz.underlying9
 a9 := Tryz.isAgg9
 z9 := Tryz.sizeOf9
 v9 := Tryz.zeroValue9 }
def ndL_ren : Go.Shelf.Ren := ⟨fun | 284 => 133 | 129 => 187 | 317 => 186 | 318 => 188 | n => n, fun | 53 => 23 | 3 => 3 | 212 => 256 | 0 => 0 | 4 => 4 | 46 => 190 | 5 => 5 | 9 => 9 | n => n, fun | 17 => 0 | n => n⟩
theorem ndL : Go.Proofs.LaysM.n284 Tryz.prog ndL_ren := {
 mixed := by kernel_rfl
 f129 := Tryz.func187.trans (congrArg some (by kernel_rfl))
 f284 := Tryz.func133.trans (congrArg some (by kernel_rfl))
 f317 := Tryz.func186.trans (congrArg some (by kernel_rfl))
 f318 := Tryz.func188.trans (congrArg some (by kernel_rfl))
 t0 := Tryz.underlying0
 a0 := Tryz.isAgg0
 z0 := Tryz.sizeOf0
 v0 := Tryz.zeroValue0
 t3 := Tryz.underlying3
 a3 := Tryz.isAgg3
 z3 := Tryz.sizeOf3
 v3 := Tryz.zeroValue3
 t4 := Tryz.underlying4
 a4 := Tryz.isAgg4
 z4 := Tryz.sizeOf4
 v4 := Tryz.zeroValue4
 t5 := Tryz.underlying5
 a5 := Tryz.isAgg5
 z5 := Tryz.sizeOf5
 v5 := Tryz.zeroValue5
 t9 := Tryz.underlying9
 a9 := Tryz.isAgg9
 z9 := Tryz.sizeOf9
 v9 := Tryz.zeroValue9
 t46 := Tryz.underlying190
 a46 := Tryz.isAgg190
 z46 := Tryz.sizeOf190
 v46 := Tryz.zeroValue190
 t53 := Tryz.underlying23
 a53 := Tryz.isAgg23
 z53 := Tryz.sizeOf23
 v53 := Tryz.zeroValue23
 t212 := Tryz.underlying256
 a212 := Tryz.isAgg256
 z212 := Tryz.sizeOf256
 v212 := Tryz.zeroValue256
 g17 := by kernel_rfl
 i0 := by kernel_rfl
 i3 := by kernel_rfl
 i4 := by kernel_rfl
 i5 := by kernel_rfl
 i9 := by kernel_rfl
 i46 := by kernel_rfl
 i53 := by kernel_rfl
 i212 := by kernel_rfl
 m17 := by kernel_rfl }
def fmtL_ren : Go.Shelf.Ren := ⟨fun | 285 => 134 | n => n, fun | 37 => 29 | 53 => 23 | 3 => 3 | 4 => 4 | 51 => 220 | 9 => 9 | 5 => 5 | 0 => 0 | n => n, fun | n => n⟩
theorem fmtL : Go.Proofs.Lays.n285 Tryz.prog fmtL_ren := {
 mixed := by kernel_rfl
 f285 := Tryz.func134.trans (congrArg some (by kernel_rfl))
 t0 := Tryz.underlying0
 a0 := Tryz.isAgg0
 z0 := Tryz.sizeOf0
 v0 := Tryz.zeroValue0
 t3 := Tryz.underlying3
 a3 := Tryz.isAgg3
 z3 := Tryz.sizeOf3
 v3 := Tryz.zeroValue3
 t4 := Tryz.underlying4
 a4 := Tryz.isAgg4
 z4 := Tryz.sizeOf4
 v4 := Tryz.zeroValue4
 t5 := Tryz.underlying5
 a5 := Tryz.isAgg5
 z5 := Tryz.sizeOf5
 v5 := Tryz.zeroValue5
 t9 := Tryz.underlying9
 a9 := Tryz.isAgg9
 z9 := Tryz.sizeOf9
 v9 := Tryz.zeroValue9
 t37 := Tryz.underlying29
 a37 := Tryz.isAgg29
 z37 := Tryz.sizeOf29
 v37 := Tryz.zeroValue29
 t51 := Tryz.underlying220
 a51 := Tryz.isAgg220
 z51 := Tryz.sizeOf220
 v51 := Tryz.zeroValue220
 t53 := Tryz.underlying23
 a53 := Tryz.isAgg23
 z53 := Tryz.sizeOf23
 v53 := Tryz.zeroValue23 }
def puL_ren : Go.Shelf.Ren := ⟨fun | 14 => 78 | 16 => 128 | 17 => 129 | 19 => 180 | 20 => 181 | 21 => 182 | 22 => 183 | 23 => 184 | 24 => 185 | 25 => 221 | 27 => 223 | 26 => 222 | 28 => 256 | 29 => 269 | 30 => 132 | 31 => 133 | 32 => 134 | 33 => 135 | 35 => 187 | 34 => 186 | 36 => 188 | 37 => 189 | 38 => 190 | 39 => 224 | 40 => 225 | n => n, fun | 9 => 9 | 3 => 3 | 22 => 23 | 24 => 146 | 25 => 147 | 4 => 4 | 34 => 250 | 5 => 5 | 36 => 190 | 37 => 29 | 0 => 0 | 39 => 252 | 21 => 21 | 44 => 285 | 47 => 249 | 50 => 309 | 48 => 307 | 2 => 2 | 52 => 203 | 55 => 206 | 59 => 256 | 60 => 220 | 20 => 20 | 61 => 257 | 65 => 310 | 66 => 311 | 67 => 200 | n => n, fun | 0 => 1 | 1 => 2 | 2 => 0 | 3 => 4 | 4 => 5 | n => n⟩
theorem puL : Go.Proofs.LaysPu.n14 Tryz.prog puL_ren := {
 mixed := by kernel_rfl
 f14 := Tryz.func78.trans (congrArg some (by kernel_rfl))
 f16 := Tryz.func128.trans (congrArg some (by kernel_rfl))
 f17 := Tryz.func129.trans (congrArg some (by kernel_rfl))
 f19 := Tryz.func180.trans (congrArg some (by kernel_rfl))
 f20 := Tryz.func181.trans (congrArg some (by kernel_rfl))
 f21 := Tryz.func182.trans (congrArg some (by kernel_rfl))
 f22 := Tryz.func183.trans (congrArg some (by kernel_rfl))
 f23 := Tryz.func184.trans (congrArg some (by kernel_rfl))
 f24 := Tryz.func185.trans (congrArg some (by kernel_rfl))
 f25 := Tryz.func221.trans (congrArg some (by kernel_rfl))
 f26 := Tryz.func222.trans (congrArg some (by kernel_rfl))
 f27 := Tryz.func223.trans (congrArg some (by kernel_rfl))
 f28 := Tryz.func256.trans (congrArg some (by kernel_rfl))
 f29 := Tryz.func269.trans (congrArg some (by kernel_rfl))
 f30 := Tryz.func132.trans (congrArg some (by kernel_rfl))
 f31 := Tryz.func133.trans (congrArg some (by kernel_rfl))
 f32 := Tryz.func134.trans (congrArg some (by kernel_rfl))
 f33 := Tryz.func135.trans (congrArg some (by kernel_rfl))
 f34 := Tryz.func186.trans (congrArg some (by kernel_rfl))
 f35 := Tryz.func187.trans (congrArg some (by kernel_rfl))
 f36 := Tryz.func188.trans (congrArg some (by kernel_rfl))
 f37 := Tryz.func189.trans (congrArg some (by kernel_rfl))
 f38 := Tryz.func190.trans (congrArg some (by kernel_rfl))
 f39 := Tryz.func224.trans (congrArg some (by kernel_rfl))
 f40 := Tryz.func225.trans (congrArg some (by kernel_rfl))
 t0 := Tryz.underlying0
 a0 := Tryz.isAgg0
 z0 := Tryz.sizeOf0
 v0 := Tryz.zeroValue0
 i0 := by kernel_rfl
 t2 := Tryz.underlying2
 a2 := Tryz.isAgg2
 z2 := Tryz.sizeOf2
 v2 := Tryz.zeroValue2
 i2 := by kernel_rfl
 t3 := Tryz.underlying3
 a3 := Tryz.isAgg3
 z3 := Tryz.sizeOf3
 v3 := Tryz.zeroValue3
 i3 := by kernel_rfl
 t4 := Tryz.underlying4
 a4 := Tryz.isAgg4
 z4 := Tryz.sizeOf4
 v4 := Tryz.zeroValue4
 i4 := by kernel_rfl
 t5 := Tryz.underlying5
 a5 := Tryz.isAgg5
 z5 := Tryz.sizeOf5
 v5 := Tryz.zeroValue5
 i5 := by kernel_rfl
 t9 := Tryz.underlying9
 a9 := Tryz.isAgg9
 z9 := Tryz.sizeOf9
 v9 := Tryz.zeroValue9
 i9 := by kernel_rfl
 t20 := Tryz.underlying20
 a20 := Tryz.isAgg20
 z20 := Tryz.sizeOf20
 v20 := Tryz.zeroValue20
 i20 := by kernel_rfl
 t21 := Tryz.underlying21
 a21 := Tryz.isAgg21
 z21 := Tryz.sizeOf21
 v21 := Tryz.zeroValue21
 i21 := by kernel_rfl
 t22 := Tryz.underlying23
 a22 := Tryz.isAgg23
 z22 := Tryz.sizeOf23
 v22 := Tryz.zeroValue23
 i22 := by kernel_rfl
 t24 := Tryz.underlying146
 a24 := Tryz.isAgg146
 z24 := Tryz.sizeOf146
 v24 := Tryz.zeroValue146
 i24 := by kernel_rfl
 t25 := Tryz.underlying147
 a25 := Tryz.isAgg147
 z25 := Tryz.sizeOf147
 v25 := Tryz.zeroValue147
 i25 := by kernel_rfl
 t34 := Tryz.underlying250
 a34 := Tryz.isAgg250
 z34 := Tryz.sizeOf250
 v34 := Tryz.zeroValue250
 i34 := by kernel_rfl
 c34 := by kernel_rfl
 t36 := Tryz.underlying190
 a36 := Tryz.isAgg190
 z36 := Tryz.sizeOf190
 v36 := Tryz.zeroValue190
 i36 := by kernel_rfl
 t37 := Tryz.underlying29
 a37 := Tryz.isAgg29
 z37 := Tryz.sizeOf29
 v37 := Tryz.zeroValue29
 i37 := by kernel_rfl
 t39 := Tryz.underlying252
 a39 := Tryz.isAgg252
 z39 := Tryz.sizeOf252
 v39 := Tryz.zeroValue252
 i39 := by kernel_rfl
 t44 := Tryz.underlying285
 a44 := Tryz.isAgg285
 z44 := Tryz.sizeOf285
 v44 := Tryz.zeroValue285
 i44 := by kernel_rfl
 t47 := Tryz.underlying249
 a47 := Tryz.isAgg249
 z47 := Tryz.sizeOf249
 v47 := Tryz.zeroValue249
 i47 := by kernel_rfl
 t48 := Tryz.underlying307
 a48 := Tryz.isAgg307
 z48 := Tryz.sizeOf307
 v48 := Tryz.zeroValue307
 i48 := by kernel_rfl
 t50 := Tryz.underlying309
 a50 := Tryz.isAgg309
 z50 := Tryz.sizeOf309
 v50 := Tryz.zeroValue309
 i50 := by kernel_rfl
 t52 := Tryz.underlying203
 a52 := Tryz.isAgg203
 z52 := Tryz.sizeOf203
 v52 := Tryz.zeroValue203
 i52 := by kernel_rfl
 t55 := Tryz.underlying206
 a55 := Tryz.isAgg206
 z55 := Tryz.sizeOf206
 v55 := Tryz.zeroValue206
 i55 := by kernel_rfl
 t59 := Tryz.underlying256
 a59 := Tryz.isAgg256
 z59 := Tryz.sizeOf256
 v59 := Tryz.zeroValue256
 i59 := by kernel_rfl
 t60 := Tryz.underlying220
 a60 := Tryz.isAgg220
 z60 := Tryz.sizeOf220
 v60 := Tryz.zeroValue220
 i60 := by kernel_rfl
 t61 := Tryz.underlying257
 a61 := Tryz.isAgg257
 z61 := Tryz.sizeOf257
 t65 := Tryz.underlying310
 a65 := Tryz.isAgg310
 z65 := Tryz.sizeOf310
 v65 := Tryz.zeroValue310
 i65 := by kernel_rfl
 t66 := Tryz.underlying311
 a66 := Tryz.isAgg311
 z66 := Tryz.sizeOf311
 v66 := Tryz.zeroValue311
 i66 := by kernel_rfl
 t67 := Tryz.underlying200
 a67 := Tryz.isAgg200
 z67 := Tryz.sizeOf200
 v67 := Tryz.zeroValue200
 i67 := by kernel_rfl
 g0 := by kernel_rfl
 m0 := by kernel_rfl
 g1 := by kernel_rfl
 m1 := by kernel_rfl
 g2 := by kernel_rfl
 m2 := by kernel_rfl
 g3 := by kernel_rfl
 m3 := by kernel_rfl
 g4 := by kernel_rfl
 m4 := by kernel_rfl }
theorem repX : Builder.Extra Tryz.prog repL_ren := {
 sizeBuilder := by kernel_rfl
 liesBuilder := by kernel_rfl
 t5 := repL.t5
 a5 := repL.a5
 z5 := repL.z5
 v5 := repL.v5
 infoByte := by kernel_rfl
 cellsByte := by kernel_rfl
 sizeByte := by kernel_rfl
 neB5 := by decide }
end Go.Proofs.YtmlfbihlbiikeaaGreatDoor
