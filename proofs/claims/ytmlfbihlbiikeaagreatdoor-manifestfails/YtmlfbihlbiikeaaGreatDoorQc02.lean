/- Memory words: boxes, what turned, lists of ints as slices. -/
import Derived.Test.YtmlfbihlbiikeaaGreatDoorChecked
import Derived.Deep.AppendSrc
import Derived.Laws.AppendOwnNone
import Derived.Handy
import Derived.Test.YtmlfbihlbiikeaaGreatDoorQc01
import Derived.BigQuiet
namespace Go.Proofs.YtmlfbihlbiikeaaGreatDoor
open Go.RowKit
abbrev at_ (p : Nat) : Value := .pointer (some ⟨p, 0, none⟩)
structure Chg (R : Nat → Prop) (w w' : World) : Prop where
  os : w'.os = w.os
  tape : w'.tape = w.tape
  output : w'.output = w.output
  size : w.heap.size ≤ w'.heap.size
  block : ∀ k, k < w.heap.size → ¬ R k → w'.heap[k]? = w.heap[k]?
theorem Chg.refl (R : Nat → Prop) (w : World) : Chg R w w := ⟨rfl, rfl, rfl, Nat.le_refl _, fun _ _ _ => rfl⟩
theorem Chg.wide {R R' : Nat → Prop} {w w' : World} (h : Chg R w w') (hR : ∀ k, k < w.heap.size → R k → R' k) : Chg R' w w' := ⟨h.os, h.tape, h.output, h.size, fun k hk hn => h.block k hk (fun hr => hn (hR k hk hr))⟩
theorem Chg.andThen {R R' : Nat → Prop} {a b c : World} (h : Chg R a b) (k : Chg R' b c) (hR : ∀ k, k < a.heap.size → R' k → R k) : Chg R a c :=
  ⟨k.os.trans h.os, k.tape.trans h.tape, k.output.trans h.output, Nat.le_trans h.size k.size, fun i hi hn => (k.block i (Nat.lt_of_lt_of_le hi h.size) (fun hr => hn (hR i hi hr))).trans (h.block i hi hn)⟩
theorem Chg.grown {row : Option Nat} {w w' : World} (h : w.grownBy w' row) : Chg (fun k => row = some k) w w' := ⟨h.os, h.tape, h.output, h.size, fun k hk hn => h.block k hk (fun e => hn e.symm)⟩
theorem Chg.of {R : Nat → Prop} {w w' : World} (h : Below w.heap.size w w') : Chg R w w' := ⟨h.os, h.tape, h.output, h.size, fun k hk _ => h.block k hk⟩
theorem Chg.drew {R : Nat → Prop} {w w' : World} (h : Chg R w w') : Chg R w w'.drew := ⟨h.os, h.tape, h.output, h.size, h.block⟩
theorem Chg.alloc {R : Nat → Prop} {w w' : World} (h : Chg R w w') (o : Obj) : Chg R w (w'.alloc o) :=
  ⟨h.os, h.tape, h.output, by have := h.size; simp; omega, fun k hk hr => (Below.heap_alloc _ _ k (Nat.lt_of_lt_of_le hk h.size)).trans (h.block k hk hr)⟩
theorem Chg.set {R : Nat → Prop} {w w' : World} (h : Chg R w w') {p : Nat} (hp : p < w.heap.size → R p) (j : Nat) (v : Value) : Chg R w (w'.setCell ⟨p, j, none⟩ v) :=
  ⟨h.os, h.tape, h.output, by have := h.size; simpa using this, fun k hk hr => (Below.heap_setCell _ _ _ k (fun e => hr (by rw [e] at hk ⊢; exact hp hk))).trans (h.block k hk hr)⟩
theorem Chg.below {R : Nat → Prop} {B : Nat} {w w' : World} (h : Chg R w w') (hR : ∀ k, R k → B ≤ k) (hB : B ≤ w.heap.size) : Below B w w' := ⟨h.os, h.tape, h.output, h.size, fun k hk => h.block k (Nat.lt_of_lt_of_le hk hB) (fun hr => by have := hR k hr; omega)⟩
def Box (w : World) (p : Nat) (t : TypeId) (arr : Array Value) : Prop := w.heap[p]? = some (.cells arr t (0, 0))
theorem Box.lt {w : World} {p : Nat} {t : TypeId} {arr : Array Value} (h : Box w p t arr) : p < w.heap.size := (Array.getElem?_eq_some_iff.1 h).1
theorem Box.cell {w : World} {p : Nat} {t : TypeId} {arr : Array Value} (h : Box w p t arr) (j : Nat) : w.cell? ⟨p, j, none⟩ = arr[j]? := cell_of_row w p j arr t (0, 0) h
theorem Box.soft {w : World} {p : Nat} {t : TypeId} {arr : Array Value} (h : Box w p t arr) (j : Nat) : w.frozen? ⟨p, j, none⟩ = false := by
  unfold World.frozen?
  rw [show w.heap[p]? = _ from h]
  simp
theorem Box.set {w : World} {p : Nat} {t : TypeId} {arr : Array Value} (h : Box w p t arr) (j : Nat) (v : Value) : Box (w.setCell ⟨p, j, none⟩ v) p t (arr.setIfInBounds j v) := by
  have hlt := h.lt
  unfold Box at h ⊢
  have e := Array.getElem?_eq_some_iff.1 h
  obtain ⟨_, e⟩ := e
  simp [World.setCell, Array.getElem?_modify, h]
theorem Box.eq {w : World} {p : Nat} {t : TypeId} {arr arr' : Array Value} (h : Box w p t arr) (e : arr = arr') : Box w p t arr' := e ▸ h
theorem Box.kept {w w' : World} {p : Nat} {t : TypeId} {arr : Array Value} (h : Box w p t arr) (hk : w'.heap[p]? = w.heap[p]?) : Box w' p t arr := hk.trans h
theorem Box.new (w : World) (t : TypeId) (arr : Array Value) : Box (w.alloc (.cells arr t)) w.heap.size t arr := heap_alloc_new w _
theorem Box.alloc {w : World} {p : Nat} {t : TypeId} {arr : Array Value} (h : Box w p t arr) (o : Obj) : Box (w.alloc o) p t arr := h.kept (Below.heap_alloc w o p h.lt)
theorem Box.other {w : World} {p q : Nat} {t : TypeId} {arr : Array Value} (h : Box w p t arr) (hq : p ≠ q) (j : Nat) (v : Value) : Box (w.setCell ⟨q, j, none⟩ v) p t arr := h.kept (Below.heap_setCell _ _ _ _ hq)
def tagOf : Obj → Nat
  | .cells _ t _ => t
  | .map _ _ => 1000
  | _ => 2000
def tag (w : World) (k : Nat) : Option Nat := (w.heap[k]?).map tagOf
theorem tag_ne {w : World} {a b i j : Nat} (ha : tag w a = some i) (hb : tag w b = some j) (h : i ≠ j) : a ≠ b := by
  rintro rfl
  rw [ha] at hb
  exact h (Option.some.inj hb)
theorem tag_lt {w : World} {a i : Nat} (ha : tag w a = some i) : a < w.heap.size := by
  unfold tag at ha
  cases h : w.heap[a]? with
  | none => rw [h] at ha; cases ha
  | some o => exact (Array.getElem?_eq_some_iff.1 h).1
theorem Box.tag {w : World} {p : Nat} {t : TypeId} {arr : Array Value} (h : Box w p t arr) : tag w p = some t := by
  unfold Go.Proofs.YtmlfbihlbiikeaaGreatDoor.tag
  rw [show w.heap[p]? = _ from h]
  rfl
theorem row_tag {w : World} {B : Nat} {e : TypeId} {size n : Nat} {v : Value} {xs : List Value} (h : w.ownsRow B e size v n xs) {b : Nat} (hb : v.ownBlock = some b) : tag w b = some e := by
  rcases h.2 with ⟨hv, _⟩ | ⟨g, c, cur, hv, _, hg, _⟩
  · rw [hv] at hb; cases hb
  · rw [hv] at hb
    obtain rfl := Option.some.inj hb
    unfold tag
    rw [hg]
    rfl
theorem row_same {w w' : World} {B : Nat} {e : TypeId} {size n : Nat} {v : Value} {xs : List Value} (h : w.ownsRow B e size v n xs) (hk : ∀ b, v.ownBlock = some b → w'.heap[b]? = w.heap[b]?) : w'.ownsRow B e size v n xs := by
  refine ⟨h.1, ?_⟩
  rcases h.2 with hn | ⟨g, c, cur, hv, hB, hg, rest⟩
  · exact .inl hn
  · exact .inr ⟨g, c, cur, hv, hB, (hk g (by rw [hv]; rfl)).trans hg, rest⟩
def blkOf (a : Option Addr) : Option Nat := a.map (·.block)
theorem own_blk (a : Option Addr) (n c : Nat) : (Value.slice a n c).ownBlock = blkOf a := by
  cases a <;> rfl
structure IsAt (w : World) (a : Option Addr) (len cap : Nat) (l : List Int) : Prop where
  size : l.length = len
  le : len ≤ cap
  max : cap ≤ maxLen
  bare : a = none → cap = 0
  wf : ∀ j, j < len → -9223372036854775808 ≤ l.getD j 0 ∧ l.getD j 0 ≤ 9223372036854775807
  here : 0 < len → ∃ b off, a = some ⟨b, off, none⟩ ∧ ∀ j, j < len → w.cell? ⟨b, off + j, none⟩ = some (.int .i64 (l.getD j 0))
theorem slice_of_row {w : World} {B : Nat} {e : TypeId} {size n : Nat} {v : Value} {xs : List Value} (h : w.ownsRow B e size v n xs) : ∃ a c, v = .slice a n c := by
  rcases h.2 with ⟨rfl, rfl⟩ | ⟨g, c, cur, rfl, _⟩
  · exact ⟨none, 0, rfl⟩
  · exact ⟨_, c, rfl⟩
theorem wpList_appV (w : World) {ops : Array Oper} {rest : List Oper} {o : Oper} {a : Act} {Q : Exit → Act → World → Prop} (hgd : o.guard = none) (s x : Operand) (t e : TypeId)
    (ho : o.op = .call { callee := .builtin .append, args := #[s, x], argTypes := #[t, t] }) (ht : Tryz.prog.underlying t = some (.slice e)) (z : Value) (size bytes : Nat) (hinfo : (Tryz.prog.info? e).map (fun i => (i.zero, i.size, i.bytes)) = some (some z, size, bytes)) (hzs : z.cells.size = size) (hsz : 0 < size)
    (B : Nat) (a1 : Option Addr) (n1 c1 : Nat) (xs : List Value) (hs : a.eval s = .slice a1 n1 c1) (hown : w.ownsRow B e size (.slice a1 n1 c1) n1 xs)
    (a2 : Option Addr) (n2 c2 : Nat) (news : List Value) (hx : a.eval x = .slice a2 n2 c2) (hbare : a2 = none → n2 = 0 ∧ c2 = 0) (hl : news.length = n2 * size) (hnews : ∀ ad, a2 = some ad → ∀ j u, news[j]? = some u → w.cell? (ad.add j) = some u) (h1 : ∀ u ∈ news, u.oneCell' = true)
    (h63 : n1 + n2 ≤ maxLen) (hbytes : (n1 + n2) * bytes ≤ 140737488355328) (hB : B ≤ w.heap.size)
    (h : ∀ a' c' w', w'.ownsRow B e size (.slice a' (n1 + n2) c') (n1 + n2) (xs ++ news) → Below B w w' → w.grownBy w' (blkOf a1) → wpList Tryz.prog ops Q rest (a.put o.dst (.slice a' (n1 + n2) c')) w') :
    wpList Tryz.prog ops Q (o :: rest) a w := by
  obtain ⟨i, hi, hz0, hz1, hz2⟩ := info_parts hinfo
  have fin : ∀ v' w', w'.ownsRow B e size v' (n1 + n2) (xs ++ news) → w.grownBy w' (Value.slice a1 n1 c1).ownBlock → wpList Tryz.prog ops Q rest (a.put o.dst v') w' := by
    intro v' w' hr hg
    obtain ⟨a', c', rfl⟩ := slice_of_row hr
    exact h a' c' w' hr ((Below.refl B w).grown hg hB (fun k hk => (hown.lt k hk).1)) (by rw [← own_blk a1 n1 c1]; exact hg)
  cases a2 with
  | none =>
    obtain ⟨rfl, rfl⟩ := hbare rfl
    obtain rfl := List.eq_nil_of_length_eq_zero (by rw [hl]; simp : news.length = 0)
    refine wpList_append_own_none hgd s x _ ho B e i size ht hi _ n1 _ hs hown hx ?_
    exact fin _ w (by simpa using hown) (World.grownBy.refl _ _)
  | some ad => exact wpList_append_own w hgd s x _ ho B e i z size bytes ht hi hz0 hz1 hz2 hzs hsz _ n1 _ hs hown ad n2 c2 news hx hl (hnews ad rfl) h1 h63 hbytes hB (fun v' w' hr hg _ => fin v' w' hr hg)
theorem row_addr {w : World} {B : Nat} {e : TypeId} {size n cap : Nat} {a : Option Addr} {xs : List Value} (h : w.ownsRow B e size (.slice a n cap) n xs) : n ≤ cap ∧ cap ≤ maxLen ∧ (a = none → cap = 0) ∧ (0 < n → ∃ g, a = some ⟨g, 0, none⟩) := by
  rcases h.2 with ⟨hv, hn⟩ | ⟨g, c, cur, hv, _, _, hn, hc, _⟩
  · simp only [Value.slice.injEq] at hv
    obtain ⟨rfl, rfl, rfl⟩ := hv
    exact ⟨Nat.le_refl _, Nat.zero_le _, fun _ => rfl, fun h0 => absurd h0 (Nat.lt_irrefl _)⟩
  · simp only [Value.slice.injEq, true_and] at hv
    obtain ⟨rfl, rfl⟩ := hv
    exact ⟨hn, hc, fun h0 => by simp at h0, fun _ => ⟨g, rfl⟩⟩
theorem row_below {w w' : World} {B : Nat} {e : TypeId} {size n : Nat} {v : Value} {xs : List Value} (h : w.ownsRow B e size v n xs) (hb : Below w.heap.size w w') : w'.ownsRow B e size v n xs :=
  row_same h fun b e => hb.block b (tag_lt (row_tag h e))
end Go.Proofs.YtmlfbihlbiikeaaGreatDoor
namespace Go.Proofs.YtmlfbihlbiikeaaGreatDoor
open Go.RowKit
set_option linter.unusedVariables false
set_option linter.unusedSimpArgs false
abbrev TG : TypeId := 135
abbrev TF : TypeId := 59
abbrev TE : TypeId := 65
theorem flat_len {α : Type} {f : α → List Value} {sz : Nat} (hf : ∀ x, (f x).length = sz) : ∀ l : List α, (l.flatMap f).length = l.length * sz
  | [] => by simp
  | x :: r => by
    have := flat_len hf r
    rw [List.flatMap_cons, List.length_append, this, hf, List.length_cons, Nat.succ_mul]
    omega
theorem flat_get {α : Type} {f : α → List Value} {sz : Nat} (hf : ∀ x, (f x).length = sz) : ∀ (l : List α) (k i : Nat) (hk : k < l.length), i < sz → (l.flatMap f)[k * sz + i]? = (f l[k])[i]?
  | x :: r, 0, i, _, hi => by
    rw [List.flatMap_cons, List.getElem?_append_left (by rw [hf]; omega)]
    simp
  | x :: r, k + 1, i, hk, hi => by
    have := flat_get hf r k i (by simpa using hk) hi
    rw [List.flatMap_cons, List.getElem?_append_right (by rw [hf, Nat.succ_mul]; omega), hf, show (k + 1) * sz + i - sz = k * sz + i by rw [Nat.succ_mul]; omega, this]
    simp
structure VsAt (sz : Nat) (w : World) (a : Option Addr) (n c : Nat) (cs : List Value) : Prop where
  size : cs.length = n * sz
  le : n ≤ c
  max : c ≤ maxLen
  bare : a = none → c = 0
  here : 0 < n → ∃ b off, a = some ⟨b, off, none⟩ ∧ ∀ j, j < n * sz → w.cell? ⟨b, off + j, none⟩ = cs[j]?
theorem VsAt.below {sz : Nat} {w w' : World} {a : Option Addr} {n c : Nat} {cs : List Value} (h : VsAt sz w a n c cs) (hz : 0 < sz) (hb : Below w.heap.size w w') : VsAt sz w' a n c cs := ⟨h.size, h.le, h.max, h.bare, fun hp => by
  obtain ⟨b, off, ha, hc⟩ := h.here hp
  have hs := h.size
  have hpos : 0 < n * sz := Nat.mul_pos hp hz
  have hb0 : b < w.heap.size := by
    have h0 := hc 0 hpos
    rw [List.getElem?_eq_getElem (by omega)] at h0
    exact World.block_lt_of_cell? w _ h0
  exact ⟨b, off, ha, fun j hj => by rw [hb.cell hb0]; exact hc j hj⟩⟩
theorem VsAt.nil (sz : Nat) (w : World) : VsAt sz w none 0 0 [] := ⟨by simp, Nat.le_refl _, Nat.zero_le _, fun _ => rfl, fun h => absurd h (Nat.lt_irrefl _)⟩
def gc (g : PG) : List Value := [.int .i64 g.level, .int .u64 (g.num : Int)]
def fc (f : PF) : List Value := [.int .i64 f.level, .int .u64 (f.num : Int), .int .i64 f.size, .string f.small.user, .int .u64 (f.small.seq : Int), .int .i64 f.small.kind, .string f.large.user, .int .u64 (f.large.seq : Int), .int .i64 f.large.kind]
def gA (g : PG) : Array Value := #[.int .i64 g.level, .int .u64 (g.num : Int)]
def fA (f : PF) : Array Value := #[.int .i64 f.level, .int .u64 (f.num : Int), .int .i64 f.size, .string f.small.user, .int .u64 (f.small.seq : Int), .int .i64 f.small.kind, .string f.large.user, .int .u64 (f.large.seq : Int), .int .i64 f.large.kind]
theorem gc_len (g : PG) : (gc g).length = 2 := rfl
theorem fc_len (f : PF) : (fc f).length = 9 := rfl
structure GsAt (w : World) (a : Option Addr) (n c : Nat) (l : List PG) : Prop where
  size : l.length = n
  row : VsAt 2 w a n c (l.flatMap gc)
structure FlAt (w : World) (a : Option Addr) (n c : Nat) (l : List PF) : Prop where
  size : l.length = n
  row : VsAt 9 w a n c (l.flatMap fc)
section
variable {w w' : World} {a : Option Addr} {n c : Nat}
theorem GsAt.below {l : List PG} (h : GsAt w a n c l) (hb : Below w.heap.size w w') : GsAt w' a n c l := ⟨h.size, h.row.below (by omega) hb⟩
theorem FlAt.below {l : List PF} (h : FlAt w a n c l) (hb : Below w.heap.size w w') : FlAt w' a n c l := ⟨h.size, h.row.below (by omega) hb⟩
theorem GsAt.nil (w : World) : GsAt w none 0 0 [] := ⟨rfl, VsAt.nil _ _⟩
theorem FlAt.nil (w : World) : FlAt w none 0 0 [] := ⟨rfl, VsAt.nil _ _⟩
theorem GsAt.at {l : List PG} (h : GsAt w a n c l) {k : Nat} (hk : k < l.length) : ∃ b o : Nat, (∀ W : World, (Instr.indexAt 63 (.slice a n c) (.int .i64 (k : Int))).run Tryz.prog W = .ok (.pointer (some ⟨b, o, none⟩)) W) ∧ b < w.heap.size ∧ (∀ W : World, Below w.heap.size w W → W.cell? ⟨b, o, none⟩ = some (.int .i64 l[k].level) ∧ W.cell? ⟨b, o + 1, none⟩ = some (.int .u64 (l[k].num : Int))) := by
  have hs := h.size
  obtain ⟨b, off, rfl, hc⟩ := h.row.here (by omega)
  have e0 := hc (k * 2 + 0) (by omega)
  have e1 := hc (k * 2 + 1) (by omega)
  rw [flat_get gc_len l k _ hk (by omega)] at e0 e1
  simp only [Nat.add_zero, ← Nat.add_assoc] at e0 e1
  have hlt : b < w.heap.size := World.block_lt_of_cell? w _ e0
  refine ⟨b, off + k * 2, fun W => ?_, hlt, fun W hW => ⟨by rw [hW.cell hlt]; exact e0, by rw [hW.cell hlt]; exact e1⟩⟩
  have h1 : (0 : Int) ≤ (k : Int) ∧ (k : Int) < (n : Int) := by omega
  have hsz : (sizeOf (Tryz.prog.elem 63)).run Tryz.prog W = .ok 2 W := by kernel_rfl
  rw [run_indexAt_slice (P := Tryz.prog) (h := (by kernel_rfl : Tryz.prog.underlying 63 = some (.slice (Tryz.prog.elem 63)))), if_pos h1, hsz]
  simp [Result.andThen, Addr.add_lit]
structure F9 (W : World) (b o : Nat) (f : PF) : Prop where
  c0 : W.cell? ⟨b, o, none⟩ = some (.int .i64 f.level)
  c1 : W.cell? ⟨b, o + 1, none⟩ = some (.int .u64 (f.num : Int))
  c2 : W.cell? ⟨b, o + 2, none⟩ = some (.int .i64 f.size)
  c3 : W.cell? ⟨b, o + 3, none⟩ = some (.string f.small.user)
  c4 : W.cell? ⟨b, o + 4, none⟩ = some (.int .u64 (f.small.seq : Int))
  c5 : W.cell? ⟨b, o + 5, none⟩ = some (.int .i64 f.small.kind)
  c6 : W.cell? ⟨b, o + 6, none⟩ = some (.string f.large.user)
  c7 : W.cell? ⟨b, o + 7, none⟩ = some (.int .u64 (f.large.seq : Int))
  c8 : W.cell? ⟨b, o + 8, none⟩ = some (.int .i64 f.large.kind)
theorem F9.below {w W : World} {b o : Nat} {f : PF} (h : F9 w b o f) (hW : Below w.heap.size w W) : F9 W b o f := by
  have hlt : b < w.heap.size := World.block_lt_of_cell? w _ h.c0
  obtain ⟨h0, h1, h2, h3, h4, h5, h6, h7, h8⟩ := h
  exact ⟨by rw [hW.cell hlt]; exact h0, by rw [hW.cell hlt]; exact h1, by rw [hW.cell hlt]; exact h2, by rw [hW.cell hlt]; exact h3, by rw [hW.cell hlt]; exact h4, by rw [hW.cell hlt]; exact h5, by rw [hW.cell hlt]; exact h6, by rw [hW.cell hlt]; exact h7, by rw [hW.cell hlt]; exact h8⟩
theorem FlAt.at {l : List PF} (h : FlAt w a n c l) {k : Nat} (hk : k < l.length) : ∃ b o : Nat, (∀ W : World, (Instr.indexAt 41 (.slice a n c) (.int .i64 (k : Int))).run Tryz.prog W = .ok (.pointer (some ⟨b, o, none⟩)) W) ∧ b < w.heap.size ∧ (∀ W : World, Below w.heap.size w W → F9 W b o l[k]) := by
  have hs := h.size
  obtain ⟨b, off, rfl, hc⟩ := h.row.here (by omega)
  have e0 := hc (k * 9 + 0) (by omega)
  have e1 := hc (k * 9 + 1) (by omega)
  have e2 := hc (k * 9 + 2) (by omega)
  have e3 := hc (k * 9 + 3) (by omega)
  have e4 := hc (k * 9 + 4) (by omega)
  have e5 := hc (k * 9 + 5) (by omega)
  have e6 := hc (k * 9 + 6) (by omega)
  have e7 := hc (k * 9 + 7) (by omega)
  have e8 := hc (k * 9 + 8) (by omega)
  rw [flat_get fc_len l k _ hk (by omega)] at e0 e1 e2 e3 e4 e5 e6 e7 e8
  simp only [Nat.add_zero, ← Nat.add_assoc] at e0 e1 e2 e3 e4 e5 e6 e7 e8
  have hlt : b < w.heap.size := World.block_lt_of_cell? w _ e0
  refine ⟨b, off + k * 9, fun W => ?_, hlt, fun W hW => F9.below ⟨e0, e1, e2, e3, e4, e5, e6, e7, e8⟩ hW⟩
  have h1 : (0 : Int) ≤ (k : Int) ∧ (k : Int) < (n : Int) := by omega
  have hsz : (sizeOf (Tryz.prog.elem 41)).run Tryz.prog W = .ok 9 W := by kernel_rfl
  rw [run_indexAt_slice (P := Tryz.prog) (h := (by kernel_rfl : Tryz.prog.underlying 41 = some (.slice (Tryz.prog.elem 41)))), if_pos h1, hsz]
  simp [Result.andThen, Addr.add_lit]
end
structure SE where
  a : Option Addr
  c : Nat
  a' : Option Addr
  c' : Nat
def eA (x : PE) (s : SE) : Array Value := #[.int .u64 (x.log : Int), .int .u64 (x.next : Int), .int .u64 (x.last : Int), .slice s.a x.dels.length s.c, .slice s.a' x.adds.length s.c']
def evV (x : PE) (s : SE) : Value := .agg #[.int .u64 (x.log : Int), .int .u64 (x.next : Int), .int .u64 (x.last : Int), .slice s.a x.dels.length s.c, .slice s.a' x.adds.length s.c']
structure EdAt (w : World) (x : PE) (s : SE) : Prop where
  gs : GsAt w s.a x.dels.length s.c x.dels
  fs : FlAt w s.a' x.adds.length s.c' x.adds
theorem EdAt.below {w w' : World} {x : PE} {s : SE} (h : EdAt w x s) (hb : Below w.heap.size w w') : EdAt w' x s := ⟨h.gs.below hb, h.fs.below hb⟩
def WfF (f : PF) : Prop := f.small.user.size ≤ 140737488351232 ∧ f.large.user.size ≤ 140737488351232
def WfE (x : PE) : Prop := ∀ f ∈ x.adds, WfF f
def ez : PE := ⟨0, 0, 0, [], []⟩
def sz0 : SE := ⟨none, 0, none, 0⟩
structure OwnG (w : World) (B : Nat) (a : Option Addr) (n c : Nat) (l : List PG) : Prop where
  size : l.length = n
  row : w.ownsRow B TG 2 (.slice a n c) n (l.flatMap gc)
structure OwnF (w : World) (B : Nat) (a : Option Addr) (n c : Nat) (l : List PF) : Prop where
  size : l.length = n
  row : w.ownsRow B TF 9 (.slice a n c) n (l.flatMap fc)
theorem infoG : (Tryz.prog.info? TG).map (fun i => (i.zero, i.size, i.bytes)) = some (some (.agg #[.int .i64 0, .int .u64 0]), 2, 16) := by kernel_rfl
theorem infoF : (Tryz.prog.info? TF).map (fun i => (i.zero, i.size, i.bytes)) = some (some (.agg #[.int .i64 0, .int .u64 0, .int .i64 0, .string ⟨#[]⟩, .int .u64 0, .int .i64 0, .string ⟨#[]⟩, .int .u64 0, .int .i64 0]), 9, 88) := by kernel_rfl
theorem VsAt.ofOwn {w : World} {B : Nat} {e : TypeId} {sz : Nat} {a : Option Addr} {n c : Nat} {cs : List Value} (h : w.ownsRow B e sz (.slice a n c) n cs) (hl : cs.length = n * sz) : VsAt sz w a n c cs := by
  obtain ⟨h1, h2, h3, h4⟩ := row_addr h
  refine ⟨hl, h1, h2, h3, fun hp => ?_⟩
  obtain ⟨g, rfl⟩ := h4 hp
  refine ⟨g, 0, rfl, fun j hj => ?_⟩
  rw [Nat.zero_add, h.cellAt j (by omega)]
theorem row_less {w : World} {B B' : Nat} {e : TypeId} {size n : Nat} {v : Value} {xs : List Value} (h : w.ownsRow B e size v n xs) (hB : B' ≤ B) : w.ownsRow B' e size v n xs := by
  refine ⟨h.1, ?_⟩
  rcases h.2 with hn | ⟨g, c, cur, hv, hb, rest⟩
  · exact .inl hn
  · exact .inr ⟨g, c, cur, hv, Nat.le_trans hB hb, rest⟩
section
variable {w w' : World} {B : Nat} {a : Option Addr} {n c : Nat}
theorem OwnG.gs {l : List PG} (h : OwnG w B a n c l) : GsAt w a n c l := ⟨h.size, VsAt.ofOwn h.row (by rw [flat_len gc_len, h.size])⟩
theorem OwnF.fs {l : List PF} (h : OwnF w B a n c l) : FlAt w a n c l := ⟨h.size, VsAt.ofOwn h.row (by rw [flat_len fc_len, h.size])⟩
theorem OwnG.nil (w : World) (B : Nat) : OwnG w B none 0 0 [] := ⟨rfl, World.ownsRow_nil _ _ _ 2⟩
theorem OwnF.nil (w : World) (B : Nat) : OwnF w B none 0 0 [] := ⟨rfl, World.ownsRow_nil _ _ _ 9⟩
theorem OwnG.below {l : List PG} (h : OwnG w B a n c l) (hb : Below w.heap.size w w') : OwnG w' B a n c l := ⟨h.size, row_below h.row hb⟩
theorem OwnF.below {l : List PF} (h : OwnF w B a n c l) (hb : Below w.heap.size w w') : OwnF w' B a n c l := ⟨h.size, row_below h.row hb⟩
theorem OwnG.kept {l : List PG} (h : OwnG w B a n c l) (hk : ∀ k, blkOf a = some k → w'.heap[k]? = w.heap[k]?) : OwnG w' B a n c l := ⟨h.size, row_same h.row (fun b e => hk b (by rw [← own_blk a n c]; exact e))⟩
theorem OwnF.kept {l : List PF} (h : OwnF w B a n c l) (hk : ∀ k, blkOf a = some k → w'.heap[k]? = w.heap[k]?) : OwnF w' B a n c l := ⟨h.size, row_same h.row (fun b e => hk b (by rw [← own_blk a n c]; exact e))⟩
theorem OwnG.tag {l : List PG} (h : OwnG w B a n c l) {k : Nat} (hk : blkOf a = some k) : tag w k = some TG := row_tag h.row (by rw [own_blk]; exact hk)
theorem OwnF.tag {l : List PF} (h : OwnF w B a n c l) {k : Nat} (hk : blkOf a = some k) : tag w k = some TF := row_tag h.row (by rw [own_blk]; exact hk)
theorem OwnG.ge {l : List PG} (h : OwnG w B a n c l) {k : Nat} (hk : blkOf a = some k) : B ≤ k := (h.row.lt k (by rw [own_blk]; exact hk)).1
theorem OwnF.ge {l : List PF} (h : OwnF w B a n c l) {k : Nat} (hk : blkOf a = some k) : B ≤ k := (h.row.lt k (by rw [own_blk]; exact hk)).1
theorem OwnG.less {l : List PG} (h : OwnG w B a n c l) {B' : Nat} (hB : B' ≤ B) : OwnG w B' a n c l := ⟨h.size, row_less h.row hB⟩
theorem OwnF.less {l : List PF} (h : OwnF w B a n c l) {B' : Nat} (hB : B' ≤ B) : OwnF w B' a n c l := ⟨h.size, row_less h.row hB⟩
theorem OwnF.alloc {l : List PF} (h : OwnF w B a n c l) (o : Obj) : OwnF (w.alloc o) B a n c l := ⟨h.size, h.row.alloc o⟩
end
theorem gc_one (l : List PG) : ∀ u ∈ l.flatMap gc, u.oneCell' = true := by
  intro u hu
  obtain ⟨e, _, he⟩ := List.mem_flatMap.1 hu
  simp [gc] at he
  rcases he with rfl | rfl <;> rfl
theorem fc_one (l : List PF) : ∀ u ∈ l.flatMap fc, u.oneCell' = true := by
  intro u hu
  obtain ⟨e, _, he⟩ := List.mem_flatMap.1 hu
  simp [fc] at he
  rcases he with rfl | rfl | rfl | rfl | rfl | rfl | rfl | rfl | rfl <;> rfl
theorem VsAt.src {sz : Nat} {w : World} {a : Option Addr} {n c : Nat} {cs : List Value} (h : VsAt sz w a n c cs) : ∀ ad, a = some ad → ∀ j u, cs[j]? = some u → w.cell? (ad.add j) = some u := by
  rintro ad rfl j u hu
  have hj : j < cs.length := (List.getElem?_eq_some_iff.1 hu).1
  have hs := h.size
  have hn : 0 < n := by
    rcases Nat.eq_zero_or_pos n with h0 | h0
    · subst h0; rw [Nat.zero_mul] at hs; omega
    · exact h0
  obtain ⟨b, off, he, hc⟩ := h.here hn
  obtain rfl := Option.some.inj he
  rw [Addr.add_lit, hc j (by omega)]
  exact hu
theorem wpList_appFl (w : World) {ops : Array Oper} {rest : List Oper} {o : Oper} {a : Act} {Q : Exit → Act → World → Prop} (hgd : o.guard = none) (s x : Operand)
    (ho : o.op = .call { callee := .builtin .append, args := #[s, x], argTypes := #[41, 41] })
    (B : Nat) (a1 : Option Addr) (n1 c1 : Nat) (l : List PF) (hs : a.eval s = .slice a1 n1 c1) (hown : OwnF w B a1 n1 c1 l)
    (a2 : Option Addr) (n2 c2 : Nat) (m : List PF) (hx : a.eval x = .slice a2 n2 c2) (hsrc : FlAt w a2 n2 c2 m)
    (hb : (n1 + n2) * 88 ≤ 140737488355328) (hB : B ≤ w.heap.size)
    (h : ∀ a' c' w', OwnF w' B a' (n1 + n2) c' (l ++ m) → Below B w w' → w.grownBy w' (blkOf a1) → wpList Tryz.prog ops Q rest (a.put o.dst (.slice a' (n1 + n2) c')) w') :
    wpList Tryz.prog ops Q (o :: rest) a w := by
  have hm := hsrc.size
  have hl := hown.size
  refine wpList_appV w hgd s x _ TF ho Tryz.underlying41 _ 9 88 infoF rfl (by decide) B a1 n1 c1 _ hs hown.row a2 n2 c2 (m.flatMap fc) hx (fun e => ?_) (by rw [flat_len fc_len, hm]) hsrc.row.src (fc_one m) (by unfold maxLen; omega) hb hB (fun a' c' w' hr hb hg => h a' c' w' ⟨by rw [List.length_append]; omega, by rw [List.flatMap_append]; exact hr⟩ hb hg)
  have := hsrc.row.bare e
  have := hsrc.row.le
  omega
theorem GsAt.one (W : World) (g : PG) : GsAt (W.alloc (.cells (gA g) TG)) (some ⟨W.heap.size, 0, none⟩) 1 1 [g] := by
  refine ⟨rfl, by simp [gc], Nat.le_refl _, by unfold maxLen; omega, by simp, fun _ => ⟨W.heap.size, 0, rfl, fun j hj => ?_⟩⟩
  rw [Nat.zero_add, (Box.new W TG (gA g)).cell, ← Array.getElem?_toList]
  simp [gA, gc]
theorem FlAt.one (W : World) (f : PF) : FlAt (W.alloc (.cells (fA f) TF)) (some ⟨W.heap.size, 0, none⟩) 1 1 [f] := by
  refine ⟨rfl, by simp [fc], Nat.le_refl _, by unfold maxLen; omega, by simp, fun _ => ⟨W.heap.size, 0, rfl, fun j hj => ?_⟩⟩
  rw [Nat.zero_add, (Box.new W TF (fA f)).cell, ← Array.getElem?_toList]
  simp [fA, fc]
end Go.Proofs.YtmlfbihlbiikeaaGreatDoor
