/- Rows of files that are gone and of files that are added, in memory; edits. -/
import Derived.Test.YtmlfbihlbiikeaaGreatDoorQa04
import Derived.Test.YtmlfbihlbiikeaaGreatDoorQa01
import Derived.BigQuiet
import Derived.Handy
import Derived.Test.YtmlfbihlbiikeaaGreatDoorQa03
import Derived.WalkLawsBesides
namespace Go.Proofs.YtmlfbihlbiikeaaGreatDoor
open Go.RowKit
set_option linter.unusedVariables false
set_option linter.unusedSimpArgs false
abbrev TG : TypeId := 135
abbrev TF : TypeId := 59
abbrev TE : TypeId := 65
theorem flat_len {α : Type} {f : α → List Value} {sz : Nat} (hf : ∀ x, (f x).length = sz) : ∀ l : List α, (l.flatMap f).length = l.length * sz
  | [] => by simp
  | x :: r => by
    have := flat_len hf r
    rw [List.flatMap_cons, List.length_append, this, hf, List.length_cons, Nat.succ_mul]
    omega
theorem flat_get {α : Type} {f : α → List Value} {sz : Nat} (hf : ∀ x, (f x).length = sz) : ∀ (l : List α) (k i : Nat) (hk : k < l.length), i < sz → (l.flatMap f)[k * sz + i]? = (f l[k])[i]?
  | x :: r, 0, i, _, hi => by
    rw [List.flatMap_cons, List.getElem?_append_left (by rw [hf]; omega)]
    simp
  | x :: r, k + 1, i, hk, hi => by
    have := flat_get hf r k i (by simpa using hk) hi
    rw [List.flatMap_cons, List.getElem?_append_right (by rw [hf, Nat.succ_mul]; omega), hf, show (k + 1) * sz + i - sz = k * sz + i by rw [Nat.succ_mul]; omega, this]
    simp
structure VsAt (sz : Nat) (w : World) (a : Option Addr) (n c : Nat) (cs : List Value) : Prop where
  size : cs.length = n * sz
  le : n ≤ c
  max : c ≤ maxLen
  bare : a = none → c = 0
  here : 0 < n → ∃ b off, a = some ⟨b, off, none⟩ ∧ ∀ j, j < n * sz → w.cell? ⟨b, off + j, none⟩ = cs[j]?
theorem VsAt.below {sz : Nat} {w w' : World} {a : Option Addr} {n c : Nat} {cs : List Value} (h : VsAt sz w a n c cs) (hz : 0 < sz) (hb : Below w.heap.size w w') : VsAt sz w' a n c cs := ⟨h.size, h.le, h.max, h.bare, fun hp => by
  obtain ⟨b, off, ha, hc⟩ := h.here hp
  have hs := h.size
  have hpos : 0 < n * sz := Nat.mul_pos hp hz
  have hb0 : b < w.heap.size := by
    have h0 := hc 0 hpos
    rw [List.getElem?_eq_getElem (by omega)] at h0
    exact World.block_lt_of_cell? w _ h0
  exact ⟨b, off, ha, fun j hj => by rw [hb.cell hb0]; exact hc j hj⟩⟩
theorem VsAt.nil (sz : Nat) (w : World) : VsAt sz w none 0 0 [] := ⟨by simp, Nat.le_refl _, Nat.zero_le _, fun _ => rfl, fun h => absurd h (Nat.lt_irrefl _)⟩
def gc (g : PG) : List Value := [.int .i64 g.level, .int .u64 (g.num : Int)]
def fc (f : PF) : List Value := [.int .i64 f.level, .int .u64 (f.num : Int), .int .i64 f.size, .string f.small.user, .int .u64 (f.small.seq : Int), .int .i64 f.small.kind, .string f.large.user, .int .u64 (f.large.seq : Int), .int .i64 f.large.kind]
def gA (g : PG) : Array Value := #[.int .i64 g.level, .int .u64 (g.num : Int)]
def fA (f : PF) : Array Value := #[.int .i64 f.level, .int .u64 (f.num : Int), .int .i64 f.size, .string f.small.user, .int .u64 (f.small.seq : Int), .int .i64 f.small.kind, .string f.large.user, .int .u64 (f.large.seq : Int), .int .i64 f.large.kind]
theorem gc_len (g : PG) : (gc g).length = 2 := rfl
theorem fc_len (f : PF) : (fc f).length = 9 := rfl
structure GsAt (w : World) (a : Option Addr) (n c : Nat) (l : List PG) : Prop where
  size : l.length = n
  row : VsAt 2 w a n c (l.flatMap gc)
structure FlAt (w : World) (a : Option Addr) (n c : Nat) (l : List PF) : Prop where
  size : l.length = n
  row : VsAt 9 w a n c (l.flatMap fc)
section
variable {w w' : World} {a : Option Addr} {n c : Nat}
theorem GsAt.below {l : List PG} (h : GsAt w a n c l) (hb : Below w.heap.size w w') : GsAt w' a n c l := ⟨h.size, h.row.below (by omega) hb⟩
theorem FlAt.below {l : List PF} (h : FlAt w a n c l) (hb : Below w.heap.size w w') : FlAt w' a n c l := ⟨h.size, h.row.below (by omega) hb⟩
theorem GsAt.nil (w : World) : GsAt w none 0 0 [] := ⟨rfl, VsAt.nil _ _⟩
theorem FlAt.nil (w : World) : FlAt w none 0 0 [] := ⟨rfl, VsAt.nil _ _⟩
theorem GsAt.at {l : List PG} (h : GsAt w a n c l) {k : Nat} (hk : k < l.length) : ∃ b o : Nat, (∀ W : World, (Instr.indexAt 63 (.slice a n c) (.int .i64 (k : Int))).run Tryz.prog W = .ok (.pointer (some ⟨b, o, none⟩)) W) ∧ b < w.heap.size ∧ (∀ W : World, Below w.heap.size w W → W.cell? ⟨b, o, none⟩ = some (.int .i64 l[k].level) ∧ W.cell? ⟨b, o + 1, none⟩ = some (.int .u64 (l[k].num : Int))) := by
  have hs := h.size
  obtain ⟨b, off, rfl, hc⟩ := h.row.here (by omega)
  have e0 := hc (k * 2 + 0) (by omega)
  have e1 := hc (k * 2 + 1) (by omega)
  rw [flat_get gc_len l k _ hk (by omega)] at e0 e1
  simp only [Nat.add_zero, ← Nat.add_assoc] at e0 e1
  have hlt : b < w.heap.size := World.block_lt_of_cell? w _ e0
  refine ⟨b, off + k * 2, fun W => ?_, hlt, fun W hW => ⟨by rw [hW.cell hlt]; exact e0, by rw [hW.cell hlt]; exact e1⟩⟩
  have h1 : (0 : Int) ≤ (k : Int) ∧ (k : Int) < (n : Int) := by omega
  have hsz : (sizeOf (Tryz.prog.elem 63)).run Tryz.prog W = .ok 2 W := by kernel_rfl
  rw [run_indexAt_slice (P := Tryz.prog) (h := (by kernel_rfl : Tryz.prog.underlying 63 = some (.slice (Tryz.prog.elem 63)))), if_pos h1, hsz]
  simp [Result.andThen, Addr.add_lit]
structure F9 (W : World) (b o : Nat) (f : PF) : Prop where
  c0 : W.cell? ⟨b, o, none⟩ = some (.int .i64 f.level)
  c1 : W.cell? ⟨b, o + 1, none⟩ = some (.int .u64 (f.num : Int))
  c2 : W.cell? ⟨b, o + 2, none⟩ = some (.int .i64 f.size)
  c3 : W.cell? ⟨b, o + 3, none⟩ = some (.string f.small.user)
  c4 : W.cell? ⟨b, o + 4, none⟩ = some (.int .u64 (f.small.seq : Int))
  c5 : W.cell? ⟨b, o + 5, none⟩ = some (.int .i64 f.small.kind)
  c6 : W.cell? ⟨b, o + 6, none⟩ = some (.string f.large.user)
  c7 : W.cell? ⟨b, o + 7, none⟩ = some (.int .u64 (f.large.seq : Int))
  c8 : W.cell? ⟨b, o + 8, none⟩ = some (.int .i64 f.large.kind)
theorem F9.below {w W : World} {b o : Nat} {f : PF} (h : F9 w b o f) (hW : Below w.heap.size w W) : F9 W b o f := by
  have hlt : b < w.heap.size := World.block_lt_of_cell? w _ h.c0
  obtain ⟨h0, h1, h2, h3, h4, h5, h6, h7, h8⟩ := h
  exact ⟨by rw [hW.cell hlt]; exact h0, by rw [hW.cell hlt]; exact h1, by rw [hW.cell hlt]; exact h2, by rw [hW.cell hlt]; exact h3, by rw [hW.cell hlt]; exact h4, by rw [hW.cell hlt]; exact h5, by rw [hW.cell hlt]; exact h6, by rw [hW.cell hlt]; exact h7, by rw [hW.cell hlt]; exact h8⟩
theorem FlAt.at {l : List PF} (h : FlAt w a n c l) {k : Nat} (hk : k < l.length) : ∃ b o : Nat, (∀ W : World, (Instr.indexAt 41 (.slice a n c) (.int .i64 (k : Int))).run Tryz.prog W = .ok (.pointer (some ⟨b, o, none⟩)) W) ∧ b < w.heap.size ∧ (∀ W : World, Below w.heap.size w W → F9 W b o l[k]) := by
  have hs := h.size
  obtain ⟨b, off, rfl, hc⟩ := h.row.here (by omega)
  have e0 := hc (k * 9 + 0) (by omega)
  have e1 := hc (k * 9 + 1) (by omega)
  have e2 := hc (k * 9 + 2) (by omega)
  have e3 := hc (k * 9 + 3) (by omega)
  have e4 := hc (k * 9 + 4) (by omega)
  have e5 := hc (k * 9 + 5) (by omega)
  have e6 := hc (k * 9 + 6) (by omega)
  have e7 := hc (k * 9 + 7) (by omega)
  have e8 := hc (k * 9 + 8) (by omega)
  rw [flat_get fc_len l k _ hk (by omega)] at e0 e1 e2 e3 e4 e5 e6 e7 e8
  simp only [Nat.add_zero, ← Nat.add_assoc] at e0 e1 e2 e3 e4 e5 e6 e7 e8
  have hlt : b < w.heap.size := World.block_lt_of_cell? w _ e0
  refine ⟨b, off + k * 9, fun W => ?_, hlt, fun W hW => F9.below ⟨e0, e1, e2, e3, e4, e5, e6, e7, e8⟩ hW⟩
  have h1 : (0 : Int) ≤ (k : Int) ∧ (k : Int) < (n : Int) := by omega
  have hsz : (sizeOf (Tryz.prog.elem 41)).run Tryz.prog W = .ok 9 W := by kernel_rfl
  rw [run_indexAt_slice (P := Tryz.prog) (h := (by kernel_rfl : Tryz.prog.underlying 41 = some (.slice (Tryz.prog.elem 41)))), if_pos h1, hsz]
  simp [Result.andThen, Addr.add_lit]
end
structure SE where
  a : Option Addr
  c : Nat
  a' : Option Addr
  c' : Nat
def eA (x : PE) (s : SE) : Array Value := #[.int .u64 (x.log : Int), .int .u64 (x.next : Int), .int .u64 (x.last : Int), .slice s.a x.dels.length s.c, .slice s.a' x.adds.length s.c']
def evV (x : PE) (s : SE) : Value := .agg #[.int .u64 (x.log : Int), .int .u64 (x.next : Int), .int .u64 (x.last : Int), .slice s.a x.dels.length s.c, .slice s.a' x.adds.length s.c']
structure EdAt (w : World) (x : PE) (s : SE) : Prop where
  gs : GsAt w s.a x.dels.length s.c x.dels
  fs : FlAt w s.a' x.adds.length s.c' x.adds
theorem EdAt.below {w w' : World} {x : PE} {s : SE} (h : EdAt w x s) (hb : Below w.heap.size w w') : EdAt w' x s := ⟨h.gs.below hb, h.fs.below hb⟩
def WfF (f : PF) : Prop := f.small.user.size ≤ 140737488351232 ∧ f.large.user.size ≤ 140737488351232
def WfE (x : PE) : Prop := ∀ f ∈ x.adds, WfF f
def ez : PE := ⟨0, 0, 0, [], []⟩
def sz0 : SE := ⟨none, 0, none, 0⟩
structure OwnG (w : World) (B : Nat) (a : Option Addr) (n c : Nat) (l : List PG) : Prop where
  size : l.length = n
  row : w.ownsRow B TG 2 (.slice a n c) n (l.flatMap gc)
structure OwnF (w : World) (B : Nat) (a : Option Addr) (n c : Nat) (l : List PF) : Prop where
  size : l.length = n
  row : w.ownsRow B TF 9 (.slice a n c) n (l.flatMap fc)
theorem infoG : (Tryz.prog.info? TG).map (fun i => (i.zero, i.size, i.bytes)) = some (some (.agg #[.int .i64 0, .int .u64 0]), 2, 16) := by kernel_rfl
theorem infoF : (Tryz.prog.info? TF).map (fun i => (i.zero, i.size, i.bytes)) = some (some (.agg #[.int .i64 0, .int .u64 0, .int .i64 0, .string ⟨#[]⟩, .int .u64 0, .int .i64 0, .string ⟨#[]⟩, .int .u64 0, .int .i64 0]), 9, 88) := by kernel_rfl
theorem VsAt.ofOwn {w : World} {B : Nat} {e : TypeId} {sz : Nat} {a : Option Addr} {n c : Nat} {cs : List Value} (h : w.ownsRow B e sz (.slice a n c) n cs) (hl : cs.length = n * sz) : VsAt sz w a n c cs := by
  obtain ⟨h1, h2, h3, h4⟩ := row_addr h
  refine ⟨hl, h1, h2, h3, fun hp => ?_⟩
  obtain ⟨g, rfl⟩ := h4 hp
  refine ⟨g, 0, rfl, fun j hj => ?_⟩
  rw [Nat.zero_add, h.cellAt j (by omega)]
theorem row_less {w : World} {B B' : Nat} {e : TypeId} {size n : Nat} {v : Value} {xs : List Value} (h : w.ownsRow B e size v n xs) (hB : B' ≤ B) : w.ownsRow B' e size v n xs := by
  refine ⟨h.1, ?_⟩
  rcases h.2 with hn | ⟨g, c, cur, hv, hb, rest⟩
  · exact .inl hn
  · exact .inr ⟨g, c, cur, hv, Nat.le_trans hB hb, rest⟩
section
variable {w w' : World} {B : Nat} {a : Option Addr} {n c : Nat}
theorem OwnG.gs {l : List PG} (h : OwnG w B a n c l) : GsAt w a n c l := ⟨h.size, VsAt.ofOwn h.row (by rw [flat_len gc_len, h.size])⟩
theorem OwnF.fs {l : List PF} (h : OwnF w B a n c l) : FlAt w a n c l := ⟨h.size, VsAt.ofOwn h.row (by rw [flat_len fc_len, h.size])⟩
theorem OwnG.nil (w : World) (B : Nat) : OwnG w B none 0 0 [] := ⟨rfl, World.ownsRow_nil _ _ _ 2⟩
theorem OwnF.nil (w : World) (B : Nat) : OwnF w B none 0 0 [] := ⟨rfl, World.ownsRow_nil _ _ _ 9⟩
theorem OwnG.below {l : List PG} (h : OwnG w B a n c l) (hb : Below w.heap.size w w') : OwnG w' B a n c l := ⟨h.size, row_below h.row hb⟩
theorem OwnF.below {l : List PF} (h : OwnF w B a n c l) (hb : Below w.heap.size w w') : OwnF w' B a n c l := ⟨h.size, row_below h.row hb⟩
theorem OwnG.kept {l : List PG} (h : OwnG w B a n c l) (hk : ∀ k, blkOf a = some k → w'.heap[k]? = w.heap[k]?) : OwnG w' B a n c l := ⟨h.size, row_same h.row (fun b e => hk b (by rw [← own_blk a n c]; exact e))⟩
theorem OwnF.kept {l : List PF} (h : OwnF w B a n c l) (hk : ∀ k, blkOf a = some k → w'.heap[k]? = w.heap[k]?) : OwnF w' B a n c l := ⟨h.size, row_same h.row (fun b e => hk b (by rw [← own_blk a n c]; exact e))⟩
theorem OwnG.tag {l : List PG} (h : OwnG w B a n c l) {k : Nat} (hk : blkOf a = some k) : tag w k = some TG := row_tag h.row (by rw [own_blk]; exact hk)
theorem OwnF.tag {l : List PF} (h : OwnF w B a n c l) {k : Nat} (hk : blkOf a = some k) : tag w k = some TF := row_tag h.row (by rw [own_blk]; exact hk)
theorem OwnG.ge {l : List PG} (h : OwnG w B a n c l) {k : Nat} (hk : blkOf a = some k) : B ≤ k := (h.row.lt k (by rw [own_blk]; exact hk)).1
theorem OwnF.ge {l : List PF} (h : OwnF w B a n c l) {k : Nat} (hk : blkOf a = some k) : B ≤ k := (h.row.lt k (by rw [own_blk]; exact hk)).1
theorem OwnG.less {l : List PG} (h : OwnG w B a n c l) {B' : Nat} (hB : B' ≤ B) : OwnG w B' a n c l := ⟨h.size, row_less h.row hB⟩
theorem OwnF.less {l : List PF} (h : OwnF w B a n c l) {B' : Nat} (hB : B' ≤ B) : OwnF w B' a n c l := ⟨h.size, row_less h.row hB⟩
theorem OwnF.alloc {l : List PF} (h : OwnF w B a n c l) (o : Obj) : OwnF (w.alloc o) B a n c l := ⟨h.size, h.row.alloc o⟩
end
theorem gc_one (l : List PG) : ∀ u ∈ l.flatMap gc, u.oneCell' = true := by
  intro u hu
  obtain ⟨e, _, he⟩ := List.mem_flatMap.1 hu
  simp [gc] at he
  rcases he with rfl | rfl <;> rfl
theorem fc_one (l : List PF) : ∀ u ∈ l.flatMap fc, u.oneCell' = true := by
  intro u hu
  obtain ⟨e, _, he⟩ := List.mem_flatMap.1 hu
  simp [fc] at he
  rcases he with rfl | rfl | rfl | rfl | rfl | rfl | rfl | rfl | rfl <;> rfl
theorem VsAt.src {sz : Nat} {w : World} {a : Option Addr} {n c : Nat} {cs : List Value} (h : VsAt sz w a n c cs) : ∀ ad, a = some ad → ∀ j u, cs[j]? = some u → w.cell? (ad.add j) = some u := by
  rintro ad rfl j u hu
  have hj : j < cs.length := (List.getElem?_eq_some_iff.1 hu).1
  have hs := h.size
  have hn : 0 < n := by
    rcases Nat.eq_zero_or_pos n with h0 | h0
    · subst h0; rw [Nat.zero_mul] at hs; omega
    · exact h0
  obtain ⟨b, off, he, hc⟩ := h.here hn
  obtain rfl := Option.some.inj he
  rw [Addr.add_lit, hc j (by omega)]
  exact hu
theorem wpList_appFl (w : World) {ops : Array Oper} {rest : List Oper} {o : Oper} {a : Act} {Q : Exit → Act → World → Prop} (hgd : o.guard = none) (s x : Operand)
    (ho : o.op = .call { callee := .builtin .append, args := #[s, x], argTypes := #[41, 41] })
    (B : Nat) (a1 : Option Addr) (n1 c1 : Nat) (l : List PF) (hs : a.eval s = .slice a1 n1 c1) (hown : OwnF w B a1 n1 c1 l)
    (a2 : Option Addr) (n2 c2 : Nat) (m : List PF) (hx : a.eval x = .slice a2 n2 c2) (hsrc : FlAt w a2 n2 c2 m)
    (hb : (n1 + n2) * 88 ≤ 140737488355328) (hB : B ≤ w.heap.size)
    (h : ∀ a' c' w', OwnF w' B a' (n1 + n2) c' (l ++ m) → Below B w w' → w.grownBy w' (blkOf a1) → wpList Tryz.prog ops Q rest (a.put o.dst (.slice a' (n1 + n2) c')) w') :
    wpList Tryz.prog ops Q (o :: rest) a w := by
  have hm := hsrc.size
  have hl := hown.size
  refine wpList_appV w hgd s x _ TF ho Tryz.underlying41 _ 9 88 infoF rfl (by decide) B a1 n1 c1 _ hs hown.row a2 n2 c2 (m.flatMap fc) hx (fun e => ?_) (by rw [flat_len fc_len, hm]) hsrc.row.src (fc_one m) (by unfold maxLen; omega) hb hB (fun a' c' w' hr hb hg => h a' c' w' ⟨by rw [List.length_append]; omega, by rw [List.flatMap_append]; exact hr⟩ hb hg)
  have := hsrc.row.bare e
  have := hsrc.row.le
  omega
theorem GsAt.one (W : World) (g : PG) : GsAt (W.alloc (.cells (gA g) TG)) (some ⟨W.heap.size, 0, none⟩) 1 1 [g] := by
  refine ⟨rfl, by simp [gc], Nat.le_refl _, by unfold maxLen; omega, by simp, fun _ => ⟨W.heap.size, 0, rfl, fun j hj => ?_⟩⟩
  rw [Nat.zero_add, (Box.new W TG (gA g)).cell, ← Array.getElem?_toList]
  simp [gA, gc]
theorem FlAt.one (W : World) (f : PF) : FlAt (W.alloc (.cells (fA f) TF)) (some ⟨W.heap.size, 0, none⟩) 1 1 [f] := by
  refine ⟨rfl, by simp [fc], Nat.le_refl _, by unfold maxLen; omega, by simp, fun _ => ⟨W.heap.size, 0, rfl, fun j hj => ?_⟩⟩
  rw [Nat.zero_add, (Box.new W TF (fA f)).cell, ← Array.getElem?_toList]
  simp [fA, fc]
end Go.Proofs.YtmlfbihlbiikeaaGreatDoor
namespace Go.Proofs.YtmlfbihlbiikeaaGreatDoor
open Go.RowKit
set_option linter.unusedVariables false
set_option linter.unusedSimpArgs false
def gaveUp : Ending := .panicked [{ v := .iface 33 (.int .i64 133), recovered := false }]
set_option maxRecDepth 100000 in
theorem must_yes (w : World) : Calls Tryz.prog 143 #[.bool true] w fun e w' => e = .returned (.tuple #[]) ∧ w = w' := by
  go_enter Tryz.func143, Tryz.ntmps143
  go_wp2
  exact ⟨rfl, .tuple #[], by simp [results, Tryz.results143], rfl, rfl⟩
set_option maxRecDepth 100000 in
theorem must_no (w : World) : Calls Tryz.prog 143 #[.bool false] w fun e w' => e = gaveUp ∧ w = w' := by
  go_enter Tryz.func143, Tryz.ntmps143
  go_wp2
  exact ⟨rfl, rfl, rfl⟩
set_option maxRecDepth 100000 in
set_option maxHeartbeats 400000 in
theorem checkGone_any (l : Int) (n : Nat) (w : World) : Calls Tryz.prog 111 #[.agg #[.int .i64 l, .int .u64 (n : Int)]] w fun e w' => e = .returned (.int .i64 ((gErr l n : Nat) : Int)) ∧ Below w.heap.size w w' := by
  have hb : Below w.heap.size w (w.alloc (.cells #[.int .i64 l, .int .u64 (n : Int)] 135)) := (Below.refl _ _).alloc (Nat.le_refl _) _
  by_cases h1 : l < 0
  · have HE : Hid (gErr l n = 130) := by unfold gErr Hid; rw [if_pos (.inl h1)]
    go_enter Tryz.func111, Tryz.ntmps111
    go_wp2
    go_ret
    rw [HE.out]
    exact ⟨ret1 rfl, hb⟩
  · by_cases h2 : 4 ≤ l
    · have HE : Hid (gErr l n = 130) := by unfold gErr Hid; rw [if_pos (.inr h2)]
      go_enter Tryz.func111, Tryz.ntmps111
      go_wp2
      go_ret
      rw [HE.out]
      exact ⟨ret1 rfl, hb⟩
    · by_cases h3 : n < 1
      · have HE : Hid (gErr l n = 132) := by unfold gErr Hid; rw [if_neg (by omega), if_pos (.inl h3)]
        go_enter Tryz.func111, Tryz.ntmps111
        go_wp2
        go_ret
        rw [HE.out]
        exact ⟨ret1 rfl, hb⟩
      · by_cases h4 : 1099511627776 < n
        · have HE : Hid (gErr l n = 132) := by unfold gErr Hid; rw [if_neg (by omega), if_pos (.inr h4)]
          go_enter Tryz.func111, Tryz.ntmps111
          go_wp2
          go_ret
          rw [HE.out]
          exact ⟨ret1 rfl, hb⟩
        · have HE : Hid (gErr l n = 0) := by unfold gErr Hid; rw [if_neg (by omega), if_neg (by omega)]
          go_enter Tryz.func111, Tryz.ntmps111
          go_wp2
          go_ret
          rw [HE.out]
          exact ⟨ret1 rfl, hb⟩
end Go.Proofs.YtmlfbihlbiikeaaGreatDoor
namespace Go.Proofs.YtmlfbihlbiikeaaGreatDoor
open Go.RowKit
set_option linter.unusedVariables false
set_option linter.unusedSimpArgs false
theorem Box.nine {w : World} {p : Nat} {f : PF} (h : Box w p TF (fA f)) : F9 w p 0 f := ⟨h.cell 0, h.cell 1, h.cell 2, h.cell 3, h.cell 4, h.cell 5, h.cell 6, h.cell 7, h.cell 8⟩
def kk (f : PF) : Array Value := #[.string f.small.user, .int .u64 (f.small.seq : Int), .int .i64 f.small.kind, .string f.large.user, .int .u64 (f.large.seq : Int), .int .i64 f.large.kind]
def keyAt (f : PF) (k : Nat) : IK := if k = 0 then f.small else f.large
set_option maxRecDepth 100000 in
theorem idx_keys (g c k : Nat) (hk : k < 2) (W : World) : (Instr.indexAt 235 (.slice (some ⟨g, 0, none⟩) 2 c) (.int .i64 (k : Int))).run Tryz.prog W = .ok (.pointer (some ⟨g, k * 3, none⟩)) W := by
  have h1 : (0 : Int) ≤ (k : Int) ∧ (k : Int) < ((2 : Nat) : Int) := by omega
  have hsz : (sizeOf (Tryz.prog.elem 235)).run Tryz.prog W = .ok 3 W := by kernel_rfl
  rw [run_indexAt_slice (P := Tryz.prog) (h := (by kernel_rfl : Tryz.prog.underlying 235 = some (.slice (Tryz.prog.elem 235)))), if_pos h1, hsz]
  simp [Result.andThen, Addr.add_lit]
set_option maxRecDepth 100000 in
set_option maxHeartbeats 1000000 in
theorem checkFile_any (f : PF) (w : World) (hw : WfF f) :
    Calls Tryz.prog 112 #[.agg #[.int .i64 f.level, .int .u64 (f.num : Int), .int .i64 f.size, .string f.small.user, .int .u64 (f.small.seq : Int), .int .i64 f.small.kind, .string f.large.user, .int .u64 (f.large.seq : Int), .int .i64 f.large.kind]] w fun e w' => e = .returned (.int .i64 ((f.err : Nat) : Int)) ∧ Below w.heap.size w w' := by
  have HW : Hid (Below w.heap.size w (w.alloc (.cells (fA f) TF)) ∧ Box (w.alloc (.cells (fA f) TF)) w.heap.size TF (fA f)) := ⟨(Below.refl _ _).alloc (Nat.le_refl _) _, Box.new _ _ _⟩
  have HF : Hid (WfF f) := hw
  have HG : Hid (∀ W, Calls Tryz.prog 111 #[.agg #[.int .i64 f.level, .int .u64 (f.num : Int)]] W fun e w' => e = .returned (.int .i64 ((gErr f.level f.num : Nat) : Int)) ∧ Below W.heap.size W w') := fun W => checkGone_any _ _ _
  have HE : Hid (f.err = if gErr f.level f.num ≠ 0 then gErr f.level f.num else if f.size < 1 ∨ 2147483647 < f.size then 132 else if f.small.err ≠ 0 then f.small.err else if f.large.err ≠ 0 then f.large.err else if f.large.cmp f.small < 0 then 132 else 0) := rfl
  generalize f.err = er at HE
  generalize gErr f.level f.num = ge at HG HE
  clear hw
  by_cases hg : ge = 0
  · subst hg
    have HE2 : Hid (er = if f.size < 1 ∨ 2147483647 < f.size then 132 else if f.small.err ≠ 0 then f.small.err else if f.large.err ≠ 0 then f.large.err else if f.large.cmp f.small < 0 then 132 else 0) := HE.out
    clear HE
    by_cases h1 : f.size < 1
    · go_enter Tryz.func112, Tryz.ntmps112
      go_wp2_with fail
      refine (HG.out _).mono ?_
      rintro _ w1 ⟨rfl, hb1⟩
      have H1 : Hid (Below w.heap.size w w1 ∧ Box w1 w.heap.size TF (fA f)) := ⟨HW.out.1.trans (hb1.mono HW.out.1.size), HW.out.2.kept (hb1.block _ HW.out.2.lt)⟩
      obtain ⟨c0, c1, c2, c3, c4, c5, c6, c7, c8⟩ := H1.out.2.nine
      clear hb1
      go_wp2
      go_ret
      rw [HE2.out, if_pos (.inl h1)]
      exact ⟨ret1 rfl, H1.out.1⟩
    · by_cases h2 : 2147483647 < f.size
      · go_enter Tryz.func112, Tryz.ntmps112
        go_wp2_with fail
        refine (HG.out _).mono ?_
        rintro _ w1 ⟨rfl, hb1⟩
        have H1 : Hid (Below w.heap.size w w1 ∧ Box w1 w.heap.size TF (fA f)) := ⟨HW.out.1.trans (hb1.mono HW.out.1.size), HW.out.2.kept (hb1.block _ HW.out.2.lt)⟩
        obtain ⟨c0, c1, c2, c3, c4, c5, c6, c7, c8⟩ := H1.out.2.nine
        clear hb1
        go_wp2
        go_ret
        rw [HE2.out, if_pos (.inr h2)]
        exact ⟨ret1 rfl, H1.out.1⟩
      · have HE3 : Hid (er = if f.small.err ≠ 0 then f.small.err else if f.large.err ≠ 0 then f.large.err else if f.large.cmp f.small < 0 then 132 else 0) := by have := HE2.out; rw [if_neg (by omega)] at this; exact this
        clear HE2
        go_enter Tryz.func112, Tryz.ntmps112
        go_wp2_with fail
        refine (HG.out _).mono ?_
        rintro _ w1 ⟨rfl, hb1⟩
        have H1 : Hid (Below w.heap.size w w1 ∧ Box w1 w.heap.size TF (fA f)) := ⟨HW.out.1.trans (hb1.mono HW.out.1.size), HW.out.2.kept (hb1.block _ HW.out.2.lt)⟩
        obtain ⟨c0, c1, c2, c3, c4, c5, c6, c7, c8⟩ := H1.out.2.nine
        clear hb1
        have HB : Hid (Below w.heap.size w (w1.alloc (.cells (kk f) 57)) ∧ Box (w1.alloc (.cells (kk f) 57)) w.heap.size TF (fA f) ∧ Box (w1.alloc (.cells (kk f) 57)) w1.heap.size 57 (kk f)) := ⟨H1.out.1.alloc H1.out.1.size _, H1.out.2.alloc _, Box.new _ _ _⟩
        go_wp2_with fail
        clear c0 c1 c2 c3 c4 c5 c6 c7 c8
        go_loopw [30] (fun x wr => ∃ k : Nat, k ≤ 2 ∧ x = .int .i64 (k : Int) ∧ Hid (Below w.heap.size w wr ∧ Box wr w.heap.size TF (fA f) ∧ Box wr w1.heap.size 57 (kk f) ∧ (0 < k → f.small.err = 0) ∧ (1 < k → f.large.err = 0))) (fun x _ => 2 - (intOf x).toNat)
        case atStart => exact ⟨0, by omega, rfl, HB.out.1, HB.out.2.1, HB.out.2.2, fun h => by omega, fun h => by omega⟩
        case round =>
          obtain ⟨k, hk, rfl, HR⟩ := hrel
          by_cases hk2 : k < 2
          · have hidx := fun W => idx_keys w1.heap.size 2 k hk2 W
            have HKE : Hid (k = 0 ∧ keyAt f k = f.small ∨ k = 1 ∧ keyAt f k = f.large) := by
              have : k = 0 ∨ k = 1 := by omega
              rcases this with rfl | rfl
              · exact .inl ⟨rfl, rfl⟩
              · exact .inr ⟨rfl, rfl⟩
            have hcs : wr.cell? ⟨w1.heap.size, k * 3, none⟩ = some (.string (keyAt f k).user) ∧ wr.cell? ⟨w1.heap.size, k * 3 + 1, none⟩ = some (.int .u64 ((keyAt f k).seq : Int)) ∧ wr.cell? ⟨w1.heap.size, k * 3 + 2, none⟩ = some (.int .i64 (keyAt f k).kind) := by
              rw [HR.out.2.2.1.cell, HR.out.2.2.1.cell, HR.out.2.2.1.cell]
              rcases HKE.out with ⟨rfl, e⟩ | ⟨rfl, e⟩ <;> rw [e] <;> exact ⟨rfl, rfl, rfl⟩
            have hsz : (keyAt f k).user.size ≤ 9223372036854775807 := by
              have := HF.out
              unfold WfF at this
              rcases HKE.out with ⟨_, e⟩ | ⟨_, e⟩ <;> rw [e] <;> omega
            obtain ⟨c0, c1, c2⟩ := hcs
            have HC : Hid (∀ W, Calls Tryz.prog 164 #[.agg #[.string (keyAt f k).user, .int .u64 ((keyAt f k).seq : Int), .int .i64 (keyAt f k).kind]] W fun e w' => e = .returned (.int .i64 (((keyAt f k).err : Nat) : Int)) ∧ Below W.heap.size W w') := fun W => check_any _ _ _ W hsz
            generalize keyAt f k = key at *
            clear hsz
            have HN : Hid (Below w.heap.size w (wr.alloc (.cells #[.string key.user, .int .u64 (key.seq : Int), .int .i64 key.kind] 57)) ∧ Box (wr.alloc (.cells #[.string key.user, .int .u64 (key.seq : Int), .int .i64 key.kind] 57)) w.heap.size TF (fA f) ∧ Box (wr.alloc (.cells #[.string key.user, .int .u64 (key.seq : Int), .int .i64 key.kind] 57)) w1.heap.size 57 (kk f)) := ⟨HR.out.1.alloc HR.out.1.size _, HR.out.2.1.alloc _, HR.out.2.2.1.alloc _⟩
            go_wp2_with fail
            refine (HC.out _).mono ?_
            rintro _ w2 ⟨rfl, hb2⟩
            have H2 : Hid (Below w.heap.size w w2 ∧ Box w2 w.heap.size TF (fA f) ∧ Box w2 w1.heap.size 57 (kk f)) := ⟨HN.out.1.trans (hb2.mono HN.out.1.size), HN.out.2.1.kept (hb2.block _ HN.out.2.1.lt), HN.out.2.2.kept (hb2.block _ HN.out.2.2.lt)⟩
            clear hb2 HN
            have HKE2 : Hid (k = 0 ∧ key.err = f.small.err ∨ k = 1 ∧ key.err = f.large.err) := by
              rcases HKE.out with ⟨h, e⟩ | ⟨h, e⟩
              · exact .inl ⟨h, by rw [e]⟩
              · exact .inr ⟨h, by rw [e]⟩
            generalize key.err = ke at HKE2
            by_cases hke : ke = 0
            · subst hke
              go_wp2
              go_roundw
              case rel =>
                refine ⟨k + 1, by omega, by go_num, H2.out.1, H2.out.2.1, H2.out.2.2, fun _ => ?_, fun _ => ?_⟩
                · rcases HKE2.out with ⟨rfl, e⟩ | ⟨rfl, e⟩
                  · exact e.symm
                  · exact HR.out.2.2.2.1 (by omega)
                · rcases HKE2.out with ⟨rfl, e⟩ | ⟨rfl, e⟩
                  · omega
                  · exact e.symm
              case measure => simp only [intOf]; omega
            · have hne : ((ke : Int) != 0) = true := by simp; omega
              go_wp2
              go_ret
              refine ⟨ret1 ?_, H2.out.1⟩
              rw [HE3.out]
              rcases HKE2.out with ⟨rfl, e⟩ | ⟨rfl, e⟩
              · rw [← e, if_pos hke]
                rfl
              · rw [if_neg (by rw [HR.out.2.2.2.1 (by omega)]; simp), ← e, if_pos hke]
                rfl
          · obtain ⟨c0, c1, c2, c3, c4, c5, c6, c7, c8⟩ := HR.out.2.1.nine
            have HC : Hid (∀ W, Calls Tryz.prog 165 #[.agg #[.string f.large.user, .int .u64 (f.large.seq : Int), .int .i64 f.large.kind], .agg #[.string f.small.user, .int .u64 (f.small.seq : Int), .int .i64 f.small.kind]] W fun e w' => e = .returned (.int .i64 (f.large.cmp f.small)) ∧ Below W.heap.size W w') := fun W => compare_any _ _ _ _ _ _ W
            go_wp2_with fail
            refine (HC.out _).mono ?_
            rintro _ w2 ⟨rfl, hb2⟩
            have H2 : Hid (Below w.heap.size w w2) := HR.out.1.trans (hb2.mono HR.out.1.size)
            clear hb2
            have HE4 : Hid (er = if f.large.cmp f.small < 0 then 132 else 0) := by
              have := HE3.out
              rw [if_neg (by rw [HR.out.2.2.2.1 (by omega)]; simp), if_neg (by rw [HR.out.2.2.2.2 (by omega)]; simp)] at this
              exact this
            clear HE3 HC
            generalize f.large.cmp f.small = cv at HE4
            by_cases hcv : cv < 0
            · go_wp2
              go_ret
              rw [HE4.out, if_pos hcv]
              exact ⟨ret1 rfl, H2.out⟩
            · go_wp2
              go_ret
              rw [HE4.out, if_neg (by omega)]
              exact ⟨ret1 rfl, H2.out⟩
  · have hne : ((ge : Int) != 0) = true := by simp; omega
    go_enter Tryz.func112, Tryz.ntmps112
    go_wp2_with fail
    refine (HG.out _).mono ?_
    rintro _ w1 ⟨rfl, hb1⟩
    have H1 : Hid (Below w.heap.size w w1) := HW.out.1.trans (hb1.mono HW.out.1.size)
    clear hb1
    go_wp2
    go_ret
    rw [HE.out, if_pos hg]
    exact ⟨ret1 rfl, H1.out⟩
end Go.Proofs.YtmlfbihlbiikeaaGreatDoor
