/- Rows of files that are gone and of files that are added, in memory; edits. -/
import Derived.Test.YtcdfgcjecmpjhaaE13Plain
import Derived.Test.YtcdfgcjecmpjhaaOwn
import Derived.Test.YtcdfgcjecmpjhaaBoxM
import Derived.BigQuiet
import Derived.Handy
namespace Go.Proofs.Ytcdfgcjecmpjhaa
open Go.RowKit
set_option linter.unusedVariables false
set_option linter.unusedSimpArgs false
abbrev TG : TypeId := 52
abbrev TF : TypeId := 50
abbrev TE : TypeId := 36
theorem flat_len {α : Type} {f : α → List Value} {sz : Nat} (hf : ∀ x, (f x).length = sz) : ∀ l : List α, (l.flatMap f).length = l.length * sz
  | [] => by simp
  | x :: r => by
    have := flat_len hf r
    rw [List.flatMap_cons, List.length_append, this, hf, List.length_cons, Nat.succ_mul]
    omega
theorem flat_get {α : Type} {f : α → List Value} {sz : Nat} (hf : ∀ x, (f x).length = sz) : ∀ (l : List α) (k i : Nat) (hk : k < l.length), i < sz → (l.flatMap f)[k * sz + i]? = (f l[k])[i]?
  | x :: r, 0, i, _, hi => by
    rw [List.flatMap_cons, List.getElem?_append_left (by rw [hf]; omega)]
    simp
  | x :: r, k + 1, i, hk, hi => by
    have := flat_get hf r k i (by simpa using hk) hi
    rw [List.flatMap_cons, List.getElem?_append_right (by rw [hf, Nat.succ_mul]; omega), hf, show (k + 1) * sz + i - sz = k * sz + i by rw [Nat.succ_mul]; omega, this]
    simp
/-- The slice value reads as these cells, so many to an element. -/
structure VsAt (sz : Nat) (w : World) (a : Option Addr) (n c : Nat) (cs : List Value) : Prop where
  size : cs.length = n * sz
  le : n ≤ c
  max : c ≤ maxLen
  bare : a = none → c = 0
  here : 0 < n → ∃ b off, a = some ⟨b, off, none⟩ ∧ ∀ j, j < n * sz → w.cell? ⟨b, off + j, none⟩ = cs[j]?
theorem VsAt.below {sz : Nat} {w w' : World} {a : Option Addr} {n c : Nat} {cs : List Value} (h : VsAt sz w a n c cs) (hz : 0 < sz) (hb : Below w.heap.size w w') : VsAt sz w' a n c cs := ⟨h.size, h.le, h.max, h.bare, fun hp => by
  obtain ⟨b, off, ha, hc⟩ := h.here hp
  have hs := h.size
  have hpos : 0 < n * sz := Nat.mul_pos hp hz
  have hb0 : b < w.heap.size := by
    have h0 := hc 0 hpos
    rw [List.getElem?_eq_getElem (by omega)] at h0
    exact World.block_lt_of_cell? w _ h0
  exact ⟨b, off, ha, fun j hj => by rw [hb.cell hb0]; exact hc j hj⟩⟩
theorem VsAt.nil (sz : Nat) (w : World) : VsAt sz w none 0 0 [] := ⟨by simp, Nat.le_refl _, Nat.zero_le _, fun _ => rfl, fun h => absurd h (Nat.lt_irrefl _)⟩
def gc (g : PG) : List Value := [.int .i64 g.level, .int .u64 (g.num : Int)]
def fc (f : PF) : List Value := [.int .i64 f.level, .int .u64 (f.num : Int), .int .i64 f.size, .string f.small.user, .int .u64 (f.small.seq : Int), .int .i64 f.small.kind, .string f.large.user, .int .u64 (f.large.seq : Int), .int .i64 f.large.kind]
def gA (g : PG) : Array Value := #[.int .i64 g.level, .int .u64 (g.num : Int)]
def fA (f : PF) : Array Value := #[.int .i64 f.level, .int .u64 (f.num : Int), .int .i64 f.size, .string f.small.user, .int .u64 (f.small.seq : Int), .int .i64 f.small.kind, .string f.large.user, .int .u64 (f.large.seq : Int), .int .i64 f.large.kind]
theorem gc_len (g : PG) : (gc g).length = 2 := rfl
theorem fc_len (f : PF) : (fc f).length = 9 := rfl
structure GsAt (w : World) (a : Option Addr) (n c : Nat) (l : List PG) : Prop where
  size : l.length = n
  row : VsAt 2 w a n c (l.flatMap gc)
structure FlAt (w : World) (a : Option Addr) (n c : Nat) (l : List PF) : Prop where
  size : l.length = n
  row : VsAt 9 w a n c (l.flatMap fc)
section
variable {w w' : World} {a : Option Addr} {n c : Nat}
theorem GsAt.below {l : List PG} (h : GsAt w a n c l) (hb : Below w.heap.size w w') : GsAt w' a n c l := ⟨h.size, h.row.below (by omega) hb⟩
theorem FlAt.below {l : List PF} (h : FlAt w a n c l) (hb : Below w.heap.size w w') : FlAt w' a n c l := ⟨h.size, h.row.below (by omega) hb⟩
theorem GsAt.nil (w : World) : GsAt w none 0 0 [] := ⟨rfl, VsAt.nil _ _⟩
theorem FlAt.nil (w : World) : FlAt w none 0 0 [] := ⟨rfl, VsAt.nil _ _⟩
/-- Where an element lies, in all later worlds. -/
theorem GsAt.at {l : List PG} (h : GsAt w a n c l) {k : Nat} (hk : k < l.length) : ∃ b o : Nat, (∀ W : World, (Instr.indexAt 34 (.slice a n c) (.int .i64 (k : Int))).run Try.prog W = .ok (.pointer (some ⟨b, o, none⟩)) W) ∧ b < w.heap.size ∧ (∀ W : World, Below w.heap.size w W → W.cell? ⟨b, o, none⟩ = some (.int .i64 l[k].level) ∧ W.cell? ⟨b, o + 1, none⟩ = some (.int .u64 (l[k].num : Int))) := by
  have hs := h.size
  obtain ⟨b, off, rfl, hc⟩ := h.row.here (by omega)
  have e0 := hc (k * 2 + 0) (by omega)
  have e1 := hc (k * 2 + 1) (by omega)
  rw [flat_get gc_len l k _ hk (by omega)] at e0 e1
  simp only [Nat.add_zero, ← Nat.add_assoc] at e0 e1
  have hlt : b < w.heap.size := World.block_lt_of_cell? w _ e0
  refine ⟨b, off + k * 2, fun W => ?_, hlt, fun W hW => ⟨by rw [hW.cell hlt]; exact e0, by rw [hW.cell hlt]; exact e1⟩⟩
  have h1 : (0 : Int) ≤ (k : Int) ∧ (k : Int) < (n : Int) := by omega
  have hsz : (sizeOf (Try.prog.elem 34)).run Try.prog W = .ok 2 W := by kernel_rfl
  rw [run_indexAt_slice (P := Try.prog) (h := (by kernel_rfl : Try.prog.underlying 34 = some (.slice (Try.prog.elem 34)))), if_pos h1, hsz]
  simp [Result.andThen, Addr.add_lit]
/-- Nine cells from a place on. -/
structure F9 (W : World) (b o : Nat) (f : PF) : Prop where
  c0 : W.cell? ⟨b, o, none⟩ = some (.int .i64 f.level)
  c1 : W.cell? ⟨b, o + 1, none⟩ = some (.int .u64 (f.num : Int))
  c2 : W.cell? ⟨b, o + 2, none⟩ = some (.int .i64 f.size)
  c3 : W.cell? ⟨b, o + 3, none⟩ = some (.string f.small.user)
  c4 : W.cell? ⟨b, o + 4, none⟩ = some (.int .u64 (f.small.seq : Int))
  c5 : W.cell? ⟨b, o + 5, none⟩ = some (.int .i64 f.small.kind)
  c6 : W.cell? ⟨b, o + 6, none⟩ = some (.string f.large.user)
  c7 : W.cell? ⟨b, o + 7, none⟩ = some (.int .u64 (f.large.seq : Int))
  c8 : W.cell? ⟨b, o + 8, none⟩ = some (.int .i64 f.large.kind)
theorem F9.below {w W : World} {b o : Nat} {f : PF} (h : F9 w b o f) (hW : Below w.heap.size w W) : F9 W b o f := by
  have hlt : b < w.heap.size := World.block_lt_of_cell? w _ h.c0
  obtain ⟨h0, h1, h2, h3, h4, h5, h6, h7, h8⟩ := h
  exact ⟨by rw [hW.cell hlt]; exact h0, by rw [hW.cell hlt]; exact h1, by rw [hW.cell hlt]; exact h2, by rw [hW.cell hlt]; exact h3, by rw [hW.cell hlt]; exact h4, by rw [hW.cell hlt]; exact h5, by rw [hW.cell hlt]; exact h6, by rw [hW.cell hlt]; exact h7, by rw [hW.cell hlt]; exact h8⟩
theorem FlAt.at {l : List PF} (h : FlAt w a n c l) {k : Nat} (hk : k < l.length) : ∃ b o : Nat, (∀ W : World, (Instr.indexAt 23 (.slice a n c) (.int .i64 (k : Int))).run Try.prog W = .ok (.pointer (some ⟨b, o, none⟩)) W) ∧ b < w.heap.size ∧ (∀ W : World, Below w.heap.size w W → F9 W b o l[k]) := by
  have hs := h.size
  obtain ⟨b, off, rfl, hc⟩ := h.row.here (by omega)
  have e0 := hc (k * 9 + 0) (by omega)
  have e1 := hc (k * 9 + 1) (by omega)
  have e2 := hc (k * 9 + 2) (by omega)
  have e3 := hc (k * 9 + 3) (by omega)
  have e4 := hc (k * 9 + 4) (by omega)
  have e5 := hc (k * 9 + 5) (by omega)
  have e6 := hc (k * 9 + 6) (by omega)
  have e7 := hc (k * 9 + 7) (by omega)
  have e8 := hc (k * 9 + 8) (by omega)
  rw [flat_get fc_len l k _ hk (by omega)] at e0 e1 e2 e3 e4 e5 e6 e7 e8
  simp only [Nat.add_zero, ← Nat.add_assoc] at e0 e1 e2 e3 e4 e5 e6 e7 e8
  have hlt : b < w.heap.size := World.block_lt_of_cell? w _ e0
  refine ⟨b, off + k * 9, fun W => ?_, hlt, fun W hW => F9.below ⟨e0, e1, e2, e3, e4, e5, e6, e7, e8⟩ hW⟩
  have h1 : (0 : Int) ≤ (k : Int) ∧ (k : Int) < (n : Int) := by omega
  have hsz : (sizeOf (Try.prog.elem 23)).run Try.prog W = .ok 9 W := by kernel_rfl
  rw [run_indexAt_slice (P := Try.prog) (h := (by kernel_rfl : Try.prog.underlying 23 = some (.slice (Try.prog.elem 23)))), if_pos h1, hsz]
  simp [Result.andThen, Addr.add_lit]
end
/-- A value of an edit whose rows are these slices. -/
structure SE where
  a : Option Addr
  c : Nat
  a' : Option Addr
  c' : Nat
def eA (x : PE) (s : SE) : Array Value := #[.int .u64 (x.log : Int), .int .u64 (x.next : Int), .int .u64 (x.last : Int), .slice s.a x.dels.length s.c, .slice s.a' x.adds.length s.c']
def evV (x : PE) (s : SE) : Value := .agg #[.int .u64 (x.log : Int), .int .u64 (x.next : Int), .int .u64 (x.last : Int), .slice s.a x.dels.length s.c, .slice s.a' x.adds.length s.c']
/-- The edit's rows lie so. -/
structure EdAt (w : World) (x : PE) (s : SE) : Prop where
  gs : GsAt w s.a x.dels.length s.c x.dels
  fs : FlAt w s.a' x.adds.length s.c' x.adds
theorem EdAt.below {w w' : World} {x : PE} {s : SE} (h : EdAt w x s) (hb : Below w.heap.size w w') : EdAt w' x s := ⟨h.gs.below hb, h.fs.below hb⟩
/-- Texts of keys as a program can have them. -/
def WfF (f : PF) : Prop := f.small.user.size ≤ 140737488351232 ∧ f.large.user.size ≤ 140737488351232
def WfE (x : PE) : Prop := ∀ f ∈ x.adds, WfF f
def ez : PE := ⟨0, 0, 0, [], []⟩
def sz0 : SE := ⟨none, 0, none, 0⟩
theorem EdAt.zero (w : World) : EdAt w ez sz0 := ⟨GsAt.nil w, FlAt.nil w⟩
/-- Rows of the call's own. -/
structure OwnG (w : World) (B : Nat) (a : Option Addr) (n c : Nat) (l : List PG) : Prop where
  size : l.length = n
  row : w.ownsRow B TG 2 (.slice a n c) n (l.flatMap gc)
structure OwnF (w : World) (B : Nat) (a : Option Addr) (n c : Nat) (l : List PF) : Prop where
  size : l.length = n
  row : w.ownsRow B TF 9 (.slice a n c) n (l.flatMap fc)
theorem infoG : (Try.prog.info? TG).map (fun i => (i.zero, i.size, i.bytes)) = some (some (.agg #[.int .i64 0, .int .u64 0]), 2, 16) := by kernel_rfl
theorem infoF : (Try.prog.info? TF).map (fun i => (i.zero, i.size, i.bytes)) = some (some (.agg #[.int .i64 0, .int .u64 0, .int .i64 0, .string ⟨#[]⟩, .int .u64 0, .int .i64 0, .string ⟨#[]⟩, .int .u64 0, .int .i64 0]), 9, 88) := by kernel_rfl
theorem VsAt.ofOwn {w : World} {B : Nat} {e : TypeId} {sz : Nat} {a : Option Addr} {n c : Nat} {cs : List Value} (h : w.ownsRow B e sz (.slice a n c) n cs) (hl : cs.length = n * sz) : VsAt sz w a n c cs := by
  obtain ⟨h1, h2, h3, h4⟩ := row_addr h
  refine ⟨hl, h1, h2, h3, fun hp => ?_⟩
  obtain ⟨g, rfl⟩ := h4 hp
  refine ⟨g, 0, rfl, fun j hj => ?_⟩
  rw [Nat.zero_add, h.cellAt j (by omega)]
theorem row_less {w : World} {B B' : Nat} {e : TypeId} {size n : Nat} {v : Value} {xs : List Value} (h : w.ownsRow B e size v n xs) (hB : B' ≤ B) : w.ownsRow B' e size v n xs := by
  refine ⟨h.1, ?_⟩
  rcases h.2 with hn | ⟨g, c, cur, hv, hb, rest⟩
  · exact .inl hn
  · exact .inr ⟨g, c, cur, hv, Nat.le_trans hB hb, rest⟩
section
variable {w w' : World} {B : Nat} {a : Option Addr} {n c : Nat}
theorem OwnG.gs {l : List PG} (h : OwnG w B a n c l) : GsAt w a n c l := ⟨h.size, VsAt.ofOwn h.row (by rw [flat_len gc_len, h.size])⟩
theorem OwnF.fs {l : List PF} (h : OwnF w B a n c l) : FlAt w a n c l := ⟨h.size, VsAt.ofOwn h.row (by rw [flat_len fc_len, h.size])⟩
theorem OwnG.nil (w : World) (B : Nat) : OwnG w B none 0 0 [] := ⟨rfl, World.ownsRow_nil _ _ _ 2⟩
theorem OwnF.nil (w : World) (B : Nat) : OwnF w B none 0 0 [] := ⟨rfl, World.ownsRow_nil _ _ _ 9⟩
theorem OwnG.below {l : List PG} (h : OwnG w B a n c l) (hb : Below w.heap.size w w') : OwnG w' B a n c l := ⟨h.size, row_below h.row hb⟩
theorem OwnF.below {l : List PF} (h : OwnF w B a n c l) (hb : Below w.heap.size w w') : OwnF w' B a n c l := ⟨h.size, row_below h.row hb⟩
theorem OwnG.kept {l : List PG} (h : OwnG w B a n c l) (hk : ∀ k, blkOf a = some k → w'.heap[k]? = w.heap[k]?) : OwnG w' B a n c l := ⟨h.size, row_same h.row (fun b e => hk b (by rw [← own_blk a n c]; exact e))⟩
theorem OwnF.kept {l : List PF} (h : OwnF w B a n c l) (hk : ∀ k, blkOf a = some k → w'.heap[k]? = w.heap[k]?) : OwnF w' B a n c l := ⟨h.size, row_same h.row (fun b e => hk b (by rw [← own_blk a n c]; exact e))⟩
theorem OwnG.tag {l : List PG} (h : OwnG w B a n c l) {k : Nat} (hk : blkOf a = some k) : tag w k = some TG := row_tag h.row (by rw [own_blk]; exact hk)
theorem OwnF.tag {l : List PF} (h : OwnF w B a n c l) {k : Nat} (hk : blkOf a = some k) : tag w k = some TF := row_tag h.row (by rw [own_blk]; exact hk)
theorem OwnG.ge {l : List PG} (h : OwnG w B a n c l) {k : Nat} (hk : blkOf a = some k) : B ≤ k := (h.row.lt k (by rw [own_blk]; exact hk)).1
theorem OwnF.ge {l : List PF} (h : OwnF w B a n c l) {k : Nat} (hk : blkOf a = some k) : B ≤ k := (h.row.lt k (by rw [own_blk]; exact hk)).1
theorem OwnG.less {l : List PG} (h : OwnG w B a n c l) {B' : Nat} (hB : B' ≤ B) : OwnG w B' a n c l := ⟨h.size, row_less h.row hB⟩
theorem OwnF.less {l : List PF} (h : OwnF w B a n c l) {B' : Nat} (hB : B' ≤ B) : OwnF w B' a n c l := ⟨h.size, row_less h.row hB⟩
theorem OwnG.alloc {l : List PG} (h : OwnG w B a n c l) (o : Obj) : OwnG (w.alloc o) B a n c l := ⟨h.size, h.row.alloc o⟩
theorem OwnF.alloc {l : List PF} (h : OwnF w B a n c l) (o : Obj) : OwnF (w.alloc o) B a n c l := ⟨h.size, h.row.alloc o⟩
end
theorem gc_one (l : List PG) : ∀ u ∈ l.flatMap gc, u.oneCell' = true := by
  intro u hu
  obtain ⟨e, _, he⟩ := List.mem_flatMap.1 hu
  simp [gc] at he
  rcases he with rfl | rfl <;> rfl
theorem fc_one (l : List PF) : ∀ u ∈ l.flatMap fc, u.oneCell' = true := by
  intro u hu
  obtain ⟨e, _, he⟩ := List.mem_flatMap.1 hu
  simp [fc] at he
  rcases he with rfl | rfl | rfl | rfl | rfl | rfl | rfl | rfl | rfl <;> rfl
theorem VsAt.src {sz : Nat} {w : World} {a : Option Addr} {n c : Nat} {cs : List Value} (h : VsAt sz w a n c cs) : ∀ ad, a = some ad → ∀ j u, cs[j]? = some u → w.cell? (ad.add j) = some u := by
  rintro ad rfl j u hu
  have hj : j < cs.length := (List.getElem?_eq_some_iff.1 hu).1
  have hs := h.size
  have hn : 0 < n := by
    rcases Nat.eq_zero_or_pos n with h0 | h0
    · subst h0; rw [Nat.zero_mul] at hs; omega
    · exact h0
  obtain ⟨b, off, he, hc⟩ := h.here hn
  obtain rfl := Option.some.inj he
  rw [Addr.add_lit, hc j (by omega)]
  exact hu
theorem wpList_appG (w : World) {ops : Array Oper} {rest : List Oper} {o : Oper} {a : Act} {Q : Exit → Act → World → Prop} (hgd : o.guard = none) (s x : Operand)
    (ho : o.op = .call { callee := .builtin .append, args := #[s, x], argTypes := #[34, 34] })
    (B : Nat) (a1 : Option Addr) (n1 c1 : Nat) (l : List PG) (hs : a.eval s = .slice a1 n1 c1) (hown : OwnG w B a1 n1 c1 l)
    (a2 : Option Addr) (n2 c2 : Nat) (m : List PG) (hx : a.eval x = .slice a2 n2 c2) (hsrc : GsAt w a2 n2 c2 m)
    (hb : (n1 + n2) * 16 ≤ 140737488355328) (hB : B ≤ w.heap.size)
    (h : ∀ a' c' w', OwnG w' B a' (n1 + n2) c' (l ++ m) → Below B w w' → w.grownBy w' (blkOf a1) → wpList Try.prog ops Q rest (a.put o.dst (.slice a' (n1 + n2) c')) w') :
    wpList Try.prog ops Q (o :: rest) a w := by
  have hm := hsrc.size
  have hl := hown.size
  refine wpList_appV w hgd s x _ TG ho Try.underlying34 _ 2 16 infoG rfl (by decide) B a1 n1 c1 _ hs hown.row a2 n2 c2 (m.flatMap gc) hx (fun e => ?_) (by rw [flat_len gc_len, hm]) hsrc.row.src (gc_one m) (by unfold maxLen; omega) hb hB (fun a' c' w' hr hb hg => h a' c' w' ⟨by rw [List.length_append]; omega, by rw [List.flatMap_append]; exact hr⟩ hb hg)
  have := hsrc.row.bare e
  have := hsrc.row.le
  omega
theorem wpList_appFl (w : World) {ops : Array Oper} {rest : List Oper} {o : Oper} {a : Act} {Q : Exit → Act → World → Prop} (hgd : o.guard = none) (s x : Operand)
    (ho : o.op = .call { callee := .builtin .append, args := #[s, x], argTypes := #[23, 23] })
    (B : Nat) (a1 : Option Addr) (n1 c1 : Nat) (l : List PF) (hs : a.eval s = .slice a1 n1 c1) (hown : OwnF w B a1 n1 c1 l)
    (a2 : Option Addr) (n2 c2 : Nat) (m : List PF) (hx : a.eval x = .slice a2 n2 c2) (hsrc : FlAt w a2 n2 c2 m)
    (hb : (n1 + n2) * 88 ≤ 140737488355328) (hB : B ≤ w.heap.size)
    (h : ∀ a' c' w', OwnF w' B a' (n1 + n2) c' (l ++ m) → Below B w w' → w.grownBy w' (blkOf a1) → wpList Try.prog ops Q rest (a.put o.dst (.slice a' (n1 + n2) c')) w') :
    wpList Try.prog ops Q (o :: rest) a w := by
  have hm := hsrc.size
  have hl := hown.size
  refine wpList_appV w hgd s x _ TF ho Try.underlying23 _ 9 88 infoF rfl (by decide) B a1 n1 c1 _ hs hown.row a2 n2 c2 (m.flatMap fc) hx (fun e => ?_) (by rw [flat_len fc_len, hm]) hsrc.row.src (fc_one m) (by unfold maxLen; omega) hb hB (fun a' c' w' hr hb hg => h a' c' w' ⟨by rw [List.length_append]; omega, by rw [List.flatMap_append]; exact hr⟩ hb hg)
  have := hsrc.row.bare e
  have := hsrc.row.le
  omega
/-- One element in a row of its own. -/
theorem GsAt.one (W : World) (g : PG) : GsAt (W.alloc (.cells (gA g) TG)) (some ⟨W.heap.size, 0, none⟩) 1 1 [g] := by
  refine ⟨rfl, by simp [gc], Nat.le_refl _, by unfold maxLen; omega, by simp, fun _ => ⟨W.heap.size, 0, rfl, fun j hj => ?_⟩⟩
  rw [Nat.zero_add, (Box.new W TG (gA g)).cell, ← Array.getElem?_toList]
  simp [gA, gc]
theorem FlAt.one (W : World) (f : PF) : FlAt (W.alloc (.cells (fA f) TF)) (some ⟨W.heap.size, 0, none⟩) 1 1 [f] := by
  refine ⟨rfl, by simp [fc], Nat.le_refl _, by unfold maxLen; omega, by simp, fun _ => ⟨W.heap.size, 0, rfl, fun j hj => ?_⟩⟩
  rw [Nat.zero_add, (Box.new W TF (fA f)).cell, ← Array.getElem?_toList]
  simp [fA, fc]
end Go.Proofs.Ytcdfgcjecmpjhaa
