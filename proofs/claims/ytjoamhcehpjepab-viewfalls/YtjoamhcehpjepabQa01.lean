/- Memory words: boxes, what turned, lists of ints as slices. -/
import Derived.Test.YtjoamhcehpjepabChecked
import Derived.Deep.AppendSrc
import Derived.Laws.AppendOwnNone
import Derived.Handy
import Derived.Deep.AppendLies
import Derived.Laws.OwnMore
import Derived.Test.YtjoamhcehpjepabQa00
import Derived.Lib.AppendStr
import Derived.WalkKit
namespace Go.Proofs.Ytjoamhcehpjepab
open Go.RowKit
abbrev at_ (p : Nat) : Value := .pointer (some ⟨p, 0, none⟩)
/-- Blocks in R, and new ones, alone turn. -/
structure Chg (R : Nat → Prop) (w w' : World) : Prop where
  os : w'.os = w.os
  tape : w'.tape = w.tape
  output : w'.output = w.output
  size : w.heap.size ≤ w'.heap.size
  block : ∀ k, k < w.heap.size → ¬ R k → w'.heap[k]? = w.heap[k]?
theorem Chg.refl (R : Nat → Prop) (w : World) : Chg R w w := ⟨rfl, rfl, rfl, Nat.le_refl _, fun _ _ _ => rfl⟩
theorem Chg.wide {R R' : Nat → Prop} {w w' : World} (h : Chg R w w') (hR : ∀ k, k < w.heap.size → R k → R' k) : Chg R' w w' := ⟨h.os, h.tape, h.output, h.size, fun k hk hn => h.block k hk (fun hr => hn (hR k hk hr))⟩
theorem Chg.andThen {R R' : Nat → Prop} {a b c : World} (h : Chg R a b) (k : Chg R' b c) (hR : ∀ k, k < a.heap.size → R' k → R k) : Chg R a c :=
  ⟨k.os.trans h.os, k.tape.trans h.tape, k.output.trans h.output, Nat.le_trans h.size k.size, fun i hi hn => (k.block i (Nat.lt_of_lt_of_le hi h.size) (fun hr => hn (hR i hi hr))).trans (h.block i hi hn)⟩
theorem Chg.grown {row : Option Nat} {w w' : World} (h : w.grownBy w' row) : Chg (fun k => row = some k) w w' := ⟨h.os, h.tape, h.output, h.size, fun k hk hn => h.block k hk (fun e => hn e.symm)⟩
theorem Chg.of {R : Nat → Prop} {w w' : World} (h : Below w.heap.size w w') : Chg R w w' := ⟨h.os, h.tape, h.output, h.size, fun k hk _ => h.block k hk⟩
theorem Chg.drew {R : Nat → Prop} {w w' : World} (h : Chg R w w') : Chg R w w'.drew := ⟨h.os, h.tape, h.output, h.size, h.block⟩
theorem Chg.alloc {R : Nat → Prop} {w w' : World} (h : Chg R w w') (o : Obj) : Chg R w (w'.alloc o) :=
  ⟨h.os, h.tape, h.output, by have := h.size; simp; omega, fun k hk hr => (Below.heap_alloc _ _ k (Nat.lt_of_lt_of_le hk h.size)).trans (h.block k hk hr)⟩
theorem Chg.set {R : Nat → Prop} {w w' : World} (h : Chg R w w') {p : Nat} (hp : p < w.heap.size → R p) (j : Nat) (v : Value) : Chg R w (w'.setCell ⟨p, j, none⟩ v) :=
  ⟨h.os, h.tape, h.output, by have := h.size; simpa using this, fun k hk hr => (Below.heap_setCell _ _ _ k (fun e => hr (by rw [e] at hk ⊢; exact hp hk))).trans (h.block k hk hr)⟩
theorem Chg.below {R : Nat → Prop} {B : Nat} {w w' : World} (h : Chg R w w') (hR : ∀ k, R k → B ≤ k) (hB : B ≤ w.heap.size) : Below B w w' := ⟨h.os, h.tape, h.output, h.size, fun k hk => h.block k (Nat.lt_of_lt_of_le hk hB) (fun hr => by have := hR k hr; omega)⟩
/-- Block p holds these cells. -/
def Box (w : World) (p : Nat) (t : TypeId) (arr : Array Value) : Prop := w.heap[p]? = some (.cells arr t (0, 0))
theorem Box.lt {w : World} {p : Nat} {t : TypeId} {arr : Array Value} (h : Box w p t arr) : p < w.heap.size := (Array.getElem?_eq_some_iff.1 h).1
theorem Box.cell {w : World} {p : Nat} {t : TypeId} {arr : Array Value} (h : Box w p t arr) (j : Nat) : w.cell? ⟨p, j, none⟩ = arr[j]? := cell_of_row w p j arr t (0, 0) h
theorem Box.soft {w : World} {p : Nat} {t : TypeId} {arr : Array Value} (h : Box w p t arr) (j : Nat) : w.frozen? ⟨p, j, none⟩ = false := by
  unfold World.frozen?
  rw [show w.heap[p]? = _ from h]
  simp
theorem Box.set {w : World} {p : Nat} {t : TypeId} {arr : Array Value} (h : Box w p t arr) (j : Nat) (v : Value) : Box (w.setCell ⟨p, j, none⟩ v) p t (arr.setIfInBounds j v) := by
  have hlt := h.lt
  unfold Box at h ⊢
  have e := Array.getElem?_eq_some_iff.1 h
  obtain ⟨_, e⟩ := e
  simp [World.setCell, Array.getElem?_modify, h]
theorem Box.eq {w : World} {p : Nat} {t : TypeId} {arr arr' : Array Value} (h : Box w p t arr) (e : arr = arr') : Box w p t arr' := e ▸ h
theorem Box.kept {w w' : World} {p : Nat} {t : TypeId} {arr : Array Value} (h : Box w p t arr) (hk : w'.heap[p]? = w.heap[p]?) : Box w' p t arr := hk.trans h
theorem Box.new (w : World) (t : TypeId) (arr : Array Value) : Box (w.alloc (.cells arr t)) w.heap.size t arr := heap_alloc_new w _
theorem Box.alloc {w : World} {p : Nat} {t : TypeId} {arr : Array Value} (h : Box w p t arr) (o : Obj) : Box (w.alloc o) p t arr := h.kept (Below.heap_alloc w o p h.lt)
theorem Box.other {w : World} {p q : Nat} {t : TypeId} {arr : Array Value} (h : Box w p t arr) (hq : p ≠ q) (j : Nat) (v : Value) : Box (w.setCell ⟨q, j, none⟩ v) p t arr := h.kept (Below.heap_setCell _ _ _ _ hq)
def tagOf : Obj → Nat
  | .cells _ t _ => t
  | .map _ _ => 1000
  | _ => 2000
def tag (w : World) (k : Nat) : Option Nat := (w.heap[k]?).map tagOf
theorem tag_ne {w : World} {a b i j : Nat} (ha : tag w a = some i) (hb : tag w b = some j) (h : i ≠ j) : a ≠ b := by
  rintro rfl
  rw [ha] at hb
  exact h (Option.some.inj hb)
theorem tag_lt {w : World} {a i : Nat} (ha : tag w a = some i) : a < w.heap.size := by
  unfold tag at ha
  cases h : w.heap[a]? with
  | none => rw [h] at ha; cases ha
  | some o => exact (Array.getElem?_eq_some_iff.1 h).1
theorem Box.tag {w : World} {p : Nat} {t : TypeId} {arr : Array Value} (h : Box w p t arr) : tag w p = some t := by
  unfold Go.Proofs.Ytjoamhcehpjepab.tag
  rw [show w.heap[p]? = _ from h]
  rfl
theorem row_tag {w : World} {B : Nat} {e : TypeId} {size n : Nat} {v : Value} {xs : List Value} (h : w.ownsRow B e size v n xs) {b : Nat} (hb : v.ownBlock = some b) : tag w b = some e := by
  rcases h.2 with ⟨hv, _⟩ | ⟨g, c, cur, hv, _, hg, _⟩
  · rw [hv] at hb; cases hb
  · rw [hv] at hb
    obtain rfl := Option.some.inj hb
    unfold tag
    rw [hg]
    rfl
theorem row_same {w w' : World} {B : Nat} {e : TypeId} {size n : Nat} {v : Value} {xs : List Value} (h : w.ownsRow B e size v n xs) (hk : ∀ b, v.ownBlock = some b → w'.heap[b]? = w.heap[b]?) : w'.ownsRow B e size v n xs := by
  refine ⟨h.1, ?_⟩
  rcases h.2 with hn | ⟨g, c, cur, hv, hB, hg, rest⟩
  · exact .inl hn
  · exact .inr ⟨g, c, cur, hv, hB, (hk g (by rw [hv]; rfl)).trans hg, rest⟩
def blkOf (a : Option Addr) : Option Nat := a.map (·.block)
theorem own_blk (a : Option Addr) (n c : Nat) : (Value.slice a n c).ownBlock = blkOf a := by
  cases a <;> rfl
/-- The slice value reads as ints. -/
structure IsAt (w : World) (a : Option Addr) (len cap : Nat) (l : List Int) : Prop where
  size : l.length = len
  le : len ≤ cap
  max : cap ≤ maxLen
  bare : a = none → cap = 0
  wf : ∀ j, j < len → -9223372036854775808 ≤ l.getD j 0 ∧ l.getD j 0 ≤ 9223372036854775807
  here : 0 < len → ∃ b off, a = some ⟨b, off, none⟩ ∧ ∀ j, j < len → w.cell? ⟨b, off + j, none⟩ = some (.int .i64 (l.getD j 0))
theorem IsAt.below {B : Nat} {w w' : World} {a : Option Addr} {len cap : Nat} {l : List Int} (h : IsAt w a len cap l) (hB : w.heap.size ≤ B) (hb : Below B w w') : IsAt w' a len cap l :=
  ⟨h.size, h.le, h.max, h.bare, h.wf, fun hp => by
    obtain ⟨b, off, ha, hc⟩ := h.here hp
    refine ⟨b, off, ha, fun j hj => ?_⟩
    rw [hb.cell (Nat.lt_of_lt_of_le (World.block_lt_of_cell? w _ (hc j hj)) hB)]
    exact hc j hj⟩
theorem IsAt.nil (w : World) : IsAt w none 0 0 [] := ⟨rfl, Nat.le_refl _, Nat.zero_le _, fun _ => rfl, fun _ h => absurd h (Nat.not_lt_zero _), fun h => absurd h (Nat.lt_irrefl _)⟩
def in64 (n : Int) : Prop := -9223372036854775808 ≤ n ∧ n ≤ 9223372036854775807
theorem slice_of_row {w : World} {B : Nat} {e : TypeId} {size n : Nat} {v : Value} {xs : List Value} (h : w.ownsRow B e size v n xs) : ∃ a c, v = .slice a n c := by
  rcases h.2 with ⟨rfl, rfl⟩ | ⟨g, c, cur, rfl, _⟩
  · exact ⟨none, 0, rfl⟩
  · exact ⟨_, c, rfl⟩
theorem wpList_appV (w : World) {ops : Array Oper} {rest : List Oper} {o : Oper} {a : Act} {Q : Exit → Act → World → Prop} (hgd : o.guard = none) (s x : Operand) (t e : TypeId)
    (ho : o.op = .call { callee := .builtin .append, args := #[s, x], argTypes := #[t, t] }) (ht : Try.prog.underlying t = some (.slice e)) (z : Value) (size bytes : Nat) (hinfo : (Try.prog.info? e).map (fun i => (i.zero, i.size, i.bytes)) = some (some z, size, bytes)) (hzs : z.cells.size = size) (hsz : 0 < size)
    (B : Nat) (a1 : Option Addr) (n1 c1 : Nat) (xs : List Value) (hs : a.eval s = .slice a1 n1 c1) (hown : w.ownsRow B e size (.slice a1 n1 c1) n1 xs)
    (a2 : Option Addr) (n2 c2 : Nat) (news : List Value) (hx : a.eval x = .slice a2 n2 c2) (hbare : a2 = none → n2 = 0 ∧ c2 = 0) (hl : news.length = n2 * size) (hnews : ∀ ad, a2 = some ad → ∀ j u, news[j]? = some u → w.cell? (ad.add j) = some u) (h1 : ∀ u ∈ news, u.oneCell' = true)
    (h63 : n1 + n2 ≤ maxLen) (hbytes : (n1 + n2) * bytes ≤ 140737488355328) (hB : B ≤ w.heap.size)
    (h : ∀ a' c' w', w'.ownsRow B e size (.slice a' (n1 + n2) c') (n1 + n2) (xs ++ news) → Below B w w' → w.grownBy w' (blkOf a1) → wpList Try.prog ops Q rest (a.put o.dst (.slice a' (n1 + n2) c')) w') :
    wpList Try.prog ops Q (o :: rest) a w := by
  obtain ⟨i, hi, hz0, hz1, hz2⟩ := info_parts hinfo
  have fin : ∀ v' w', w'.ownsRow B e size v' (n1 + n2) (xs ++ news) → w.grownBy w' (Value.slice a1 n1 c1).ownBlock → wpList Try.prog ops Q rest (a.put o.dst v') w' := by
    intro v' w' hr hg
    obtain ⟨a', c', rfl⟩ := slice_of_row hr
    exact h a' c' w' hr ((Below.refl B w).grown hg hB (fun k hk => (hown.lt k hk).1)) (by rw [← own_blk a1 n1 c1]; exact hg)
  cases a2 with
  | none =>
    obtain ⟨rfl, rfl⟩ := hbare rfl
    obtain rfl := List.eq_nil_of_length_eq_zero (by rw [hl]; simp : news.length = 0)
    refine wpList_append_own_none hgd s x _ ho B e i size ht hi _ n1 _ hs hown hx ?_
    exact fin _ w (by simpa using hown) (World.grownBy.refl _ _)
  | some ad => exact wpList_append_own w hgd s x _ ho B e i z size bytes ht hi hz0 hz1 hz2 hzs hsz _ n1 _ hs hown ad n2 c2 news hx hl (hnews ad rfl) h1 h63 hbytes hB (fun v' w' hr hg _ => fin v' w' hr hg)
def cellsN (l : List Int) : List Value := l.map (Value.int .i64)
theorem cellsN_one (l : List Int) : ∀ u ∈ cellsN l, u.oneCell' = true := by
  intro u hu
  obtain ⟨_, _, rfl⟩ := List.mem_map.1 hu
  rfl
theorem cellsN_get (l : List Int) (j : Nat) (h : j < l.length) : (cellsN l)[j]? = some (.int .i64 (l.getD j 0)) := by simp [cellsN, List.getD, h]
/-- A row of ints of the call's own. -/
structure OwnN (w : World) (B : Nat) (a : Option Addr) (len cap : Nat) (l : List Int) : Prop where
  size : l.length = len
  row : w.ownsRow B 3 1 (.slice a len cap) len (cellsN l)
  wf : ∀ n ∈ l, in64 n
theorem row_addr {w : World} {B : Nat} {e : TypeId} {size n cap : Nat} {a : Option Addr} {xs : List Value} (h : w.ownsRow B e size (.slice a n cap) n xs) : n ≤ cap ∧ cap ≤ maxLen ∧ (a = none → cap = 0) ∧ (0 < n → ∃ g, a = some ⟨g, 0, none⟩) := by
  rcases h.2 with ⟨hv, hn⟩ | ⟨g, c, cur, hv, _, _, hn, hc, _⟩
  · simp only [Value.slice.injEq] at hv
    obtain ⟨rfl, rfl, rfl⟩ := hv
    exact ⟨Nat.le_refl _, Nat.zero_le _, fun _ => rfl, fun h0 => absurd h0 (Nat.lt_irrefl _)⟩
  · simp only [Value.slice.injEq, true_and] at hv
    obtain ⟨rfl, rfl⟩ := hv
    exact ⟨hn, hc, fun h0 => by simp at h0, fun _ => ⟨g, rfl⟩⟩
theorem OwnN.is {w : World} {B : Nat} {a : Option Addr} {len cap : Nat} {l : List Int} (h : OwnN w B a len cap l) : IsAt w a len cap l := by
  obtain ⟨h1, h2, h3, h4⟩ := row_addr h.row
  have hs := h.size
  refine ⟨hs, h1, h2, h3, fun j hj => h.wf _ (by simp [List.getD, hs, hj]), fun hp => ?_⟩
  obtain ⟨g, rfl⟩ := h4 hp
  refine ⟨g, 0, rfl, fun j hj => ?_⟩
  rw [Nat.zero_add, h.row.cellAt j (by omega), cellsN_get l j (by omega)]
theorem row_below {w w' : World} {B : Nat} {e : TypeId} {size n : Nat} {v : Value} {xs : List Value} (h : w.ownsRow B e size v n xs) (hb : Below w.heap.size w w') : w'.ownsRow B e size v n xs :=
  row_same h fun b e => hb.block b (tag_lt (row_tag h e))
theorem OwnN.below {w w' : World} {B : Nat} {a : Option Addr} {len cap : Nat} {l : List Int} (h : OwnN w B a len cap l) (hb : Below w.heap.size w w') : OwnN w' B a len cap l := ⟨h.size, row_below h.row hb, h.wf⟩
theorem infoI64 : (Try.prog.info? 3).map (fun i => (i.zero, i.size, i.bytes)) = some (some (.int .i64 0), 1, 8) := by kernel_rfl
end Go.Proofs.Ytjoamhcehpjepab
/- Rows of texts and of ints that a call owns; one more is put behind. -/
namespace Go.Proofs.Ytjoamhcehpjepab
open Go.RowKit
theorem OwnN.nil (w : World) (B : Nat) : OwnN w B none 0 0 [] := ⟨rfl, World.ownsRow_nil _ _ _ 1, by simp⟩
theorem OwnN.tag {w : World} {B : Nat} {a : Option Addr} {n c : Nat} {l : List Int} (h : OwnN w B a n c l) {k : Nat} (hk : blkOf a = some k) : tag w k = some 3 := row_tag h.row (by rw [own_blk]; exact hk)
theorem OwnN.ge {w : World} {B : Nat} {a : Option Addr} {n c : Nat} {l : List Int} (h : OwnN w B a n c l) {k : Nat} (hk : blkOf a = some k) : B ≤ k := (h.row.lt k (by rw [own_blk]; exact hk)).1
theorem OwnN.kept {w w' : World} {B : Nat} {a : Option Addr} {n c : Nat} {l : List Int} (h : OwnN w B a n c l) (hk : ∀ k, blkOf a = some k → w'.heap[k]? = w.heap[k]?) : OwnN w' B a n c l := ⟨h.size, row_same h.row (fun b e => hk b (by rw [← own_blk a n c]; exact e)), h.wf⟩
theorem OwnN.chg {R : Nat → Prop} {w w' : World} {B : Nat} {a : Option Addr} {n c : Nat} {l : List Int} (h : OwnN w B a n c l) (hc : Chg R w w') (hR : ∀ k, blkOf a = some k → ¬ R k) : OwnN w' B a n c l := h.kept fun k hk => hc.block k (tag_lt (h.tag hk)) (hR k hk)
theorem OwnN.alloc {w : World} {B : Nat} {a : Option Addr} {n c : Nat} {l : List Int} (h : OwnN w B a n c l) (o : Obj) : OwnN (w.alloc o) B a n c l := ⟨h.size, h.row.alloc o, h.wf⟩
def cellsS (l : List ByteArray) : List Value := l.map Value.string
/-- A row of texts of the call's own. -/
structure OwnS (w : World) (B : Nat) (a : Option Addr) (len cap : Nat) (l : List ByteArray) : Prop where
  size : l.length = len
  row : w.ownsRow B 9 1 (.slice a len cap) len (cellsS l)
/-- The slice value reads as texts. -/
structure StAt (w : World) (a : Option Addr) (len cap : Nat) (l : List ByteArray) : Prop where
  size : l.length = len
  le : len ≤ cap
  max : cap ≤ maxLen
  here : 0 < len → ∃ b off, a = some ⟨b, off, none⟩ ∧ ∀ j, j < len → w.cell? ⟨b, off + j, none⟩ = some (.string (l.getD j ⟨#[]⟩))
section
variable {w w' : World} {B : Nat} {a : Option Addr} {n c : Nat} {l : List ByteArray}
theorem OwnS.st (h : OwnS w B a n c l) : StAt w a n c l := by
  obtain ⟨h1, h2, h3, h4⟩ := row_addr h.row
  have hs := h.size
  refine ⟨hs, h1, h2, fun hp => ?_⟩
  obtain ⟨g, rfl⟩ := h4 hp
  refine ⟨g, 0, rfl, fun j hj => ?_⟩
  rw [Nat.zero_add, h.row.cellAt j (by omega)]
  simp [cellsS, List.getD, show j < l.length by omega]
theorem StAt.below (h : StAt w a n c l) (hb : Below w.heap.size w w') : StAt w' a n c l := ⟨h.size, h.le, h.max, fun hp => by
  obtain ⟨b, off, ha, hc⟩ := h.here hp
  refine ⟨b, off, ha, fun j hj => ?_⟩
  rw [hb.cell (World.block_lt_of_cell? w _ (hc j hj))]
  exact hc j hj⟩
theorem OwnS.nil (w : World) (B : Nat) : OwnS w B none 0 0 [] := ⟨rfl, World.ownsRow_nil _ _ _ 1⟩
theorem OwnS.tag (h : OwnS w B a n c l) {k : Nat} (hk : blkOf a = some k) : tag w k = some 9 := row_tag h.row (by rw [own_blk]; exact hk)
theorem OwnS.ge (h : OwnS w B a n c l) {k : Nat} (hk : blkOf a = some k) : B ≤ k := (h.row.lt k (by rw [own_blk]; exact hk)).1
theorem OwnS.kept (h : OwnS w B a n c l) (hk : ∀ k, blkOf a = some k → w'.heap[k]? = w.heap[k]?) : OwnS w' B a n c l := ⟨h.size, row_same h.row (fun b e => hk b (by rw [← own_blk a n c]; exact e))⟩
theorem OwnS.chg {R : Nat → Prop} (h : OwnS w B a n c l) (hc : Chg R w w') (hR : ∀ k, blkOf a = some k → ¬ R k) : OwnS w' B a n c l := h.kept fun k hk => hc.block k (tag_lt (h.tag hk)) (hR k hk)
theorem OwnS.below (h : OwnS w B a n c l) (hb : Below w.heap.size w w') : OwnS w' B a n c l := h.kept fun k hk => hb.block k (tag_lt (h.tag hk))
theorem OwnS.alloc (h : OwnS w B a n c l) (o : Obj) : OwnS (w.alloc o) B a n c l := ⟨h.size, h.row.alloc o⟩
theorem OwnS.less (h : OwnS w B a n c l) {B' : Nat} (hB : B' ≤ B) : OwnS w B' a n c l := by
  refine ⟨h.size, h.row.1, ?_⟩
  rcases h.row.2 with hn | ⟨g, c, cur, hv, hb, rest⟩
  · exact .inl hn
  · exact .inr ⟨g, c, cur, hv, Nat.le_trans hB hb, rest⟩
end
theorem infoS : (Try.prog.info? 9).map (fun i => (i.zero, i.size, i.bytes)) = some (some (.string ⟨#[]⟩), 1, 16) := by kernel_rfl
def lenOf : Value → Nat
  | .slice _ n _ => n
  | _ => 0
end Go.Proofs.Ytjoamhcehpjepab
/- Slices of bytes that a call owns: what make and append leave, told for lists of bytes. -/
namespace Go.Proofs.Ytjoamhcehpjepab
open Go.RowKit

end Go.Proofs.Ytjoamhcehpjepab
/- The contract of codec's own: a copy of bytes in new memory, with room behind. -/
namespace Go.Proofs.Ytjoamhcehpjepab
open Go.RowKit

end Go.Proofs.Ytjoamhcehpjepab
/- What Go's bit operations on unsigned numbers are in natural numbers. -/
namespace Go.Proofs.Ytjoamhcehpjepab
theorem nbits_or8 (a b : Nat) (ha : a < 256) (hb : b < 256) : bits .or .u8 (a : Int) (b : Int) = ((a ||| b : Nat) : Int) := by
  have h : a ||| b < 2 ^ 8 := Nat.or_lt_two_pow ha hb
  have e : (BitVec.ofInt IntKind.u8.bits (a : Int) ||| BitVec.ofInt IntKind.u8.bits (b : Int)).toNat = a ||| b := by
    show (BitVec.ofInt 8 (a : Int) ||| BitVec.ofInt 8 (b : Int)).toNat = _
    rw [BitVec.toNat_or, BitVec.ofInt_natCast, BitVec.ofInt_natCast, BitVec.toNat_ofNat, BitVec.toNat_ofNat, Nat.mod_eq_of_lt ha, Nat.mod_eq_of_lt hb]
  unfold bits
  simp only [e]
  simp [IntKind.wrap, IntKind.bits, IntKind.signed]
  omega
theorem nbits_or32 (a b : Nat) (ha : a < 4294967296) (hb : b < 4294967296) : bits .or .u32 (a : Int) (b : Int) = ((a ||| b : Nat) : Int) := by
  have h : a ||| b < 2 ^ 32 := Nat.or_lt_two_pow ha hb
  have e : (BitVec.ofInt IntKind.u32.bits (a : Int) ||| BitVec.ofInt IntKind.u32.bits (b : Int)).toNat = a ||| b := by
    show (BitVec.ofInt 32 (a : Int) ||| BitVec.ofInt 32 (b : Int)).toNat = _
    rw [BitVec.toNat_or, BitVec.ofInt_natCast, BitVec.ofInt_natCast, BitVec.toNat_ofNat, BitVec.toNat_ofNat, Nat.mod_eq_of_lt ha, Nat.mod_eq_of_lt hb]
  unfold bits
  simp only [e]
  simp [IntKind.wrap, IntKind.bits, IntKind.signed]
  omega
theorem nbits_or64 (a b : Nat) (ha : a < 18446744073709551616) (hb : b < 18446744073709551616) : bits .or .u64 (a : Int) (b : Int) = ((a ||| b : Nat) : Int) := by
  have h : a ||| b < 2 ^ 64 := Nat.or_lt_two_pow ha hb
  have e : (BitVec.ofInt IntKind.u64.bits (a : Int) ||| BitVec.ofInt IntKind.u64.bits (b : Int)).toNat = a ||| b := by
    show (BitVec.ofInt 64 (a : Int) ||| BitVec.ofInt 64 (b : Int)).toNat = _
    rw [BitVec.toNat_or, BitVec.ofInt_natCast, BitVec.ofInt_natCast, BitVec.toNat_ofNat, BitVec.toNat_ofNat, Nat.mod_eq_of_lt ha, Nat.mod_eq_of_lt hb]
  unfold bits
  simp only [e]
  simp [IntKind.wrap, IntKind.bits, IntKind.signed]
  omega
theorem nbits_xor8 (a b : Nat) (ha : a < 256) (hb : b < 256) : bits .xor .u8 (a : Int) (b : Int) = ((a ^^^ b : Nat) : Int) := by
  have h : a ^^^ b < 2 ^ 8 := Nat.xor_lt_two_pow ha hb
  have e : (BitVec.ofInt IntKind.u8.bits (a : Int) ^^^ BitVec.ofInt IntKind.u8.bits (b : Int)).toNat = a ^^^ b := by
    show (BitVec.ofInt 8 (a : Int) ^^^ BitVec.ofInt 8 (b : Int)).toNat = _
    rw [BitVec.toNat_xor, BitVec.ofInt_natCast, BitVec.ofInt_natCast, BitVec.toNat_ofNat, BitVec.toNat_ofNat, Nat.mod_eq_of_lt ha, Nat.mod_eq_of_lt hb]
  unfold bits
  simp only [e]
  simp [IntKind.wrap, IntKind.bits, IntKind.signed]
  omega
theorem nbits_xor32 (a b : Nat) (ha : a < 4294967296) (hb : b < 4294967296) : bits .xor .u32 (a : Int) (b : Int) = ((a ^^^ b : Nat) : Int) := by
  have h : a ^^^ b < 2 ^ 32 := Nat.xor_lt_two_pow ha hb
  have e : (BitVec.ofInt IntKind.u32.bits (a : Int) ^^^ BitVec.ofInt IntKind.u32.bits (b : Int)).toNat = a ^^^ b := by
    show (BitVec.ofInt 32 (a : Int) ^^^ BitVec.ofInt 32 (b : Int)).toNat = _
    rw [BitVec.toNat_xor, BitVec.ofInt_natCast, BitVec.ofInt_natCast, BitVec.toNat_ofNat, BitVec.toNat_ofNat, Nat.mod_eq_of_lt ha, Nat.mod_eq_of_lt hb]
  unfold bits
  simp only [e]
  simp [IntKind.wrap, IntKind.bits, IntKind.signed]
  omega
theorem nbits_xor64 (a b : Nat) (ha : a < 18446744073709551616) (hb : b < 18446744073709551616) : bits .xor .u64 (a : Int) (b : Int) = ((a ^^^ b : Nat) : Int) := by
  have h : a ^^^ b < 2 ^ 64 := Nat.xor_lt_two_pow ha hb
  have e : (BitVec.ofInt IntKind.u64.bits (a : Int) ^^^ BitVec.ofInt IntKind.u64.bits (b : Int)).toNat = a ^^^ b := by
    show (BitVec.ofInt 64 (a : Int) ^^^ BitVec.ofInt 64 (b : Int)).toNat = _
    rw [BitVec.toNat_xor, BitVec.ofInt_natCast, BitVec.ofInt_natCast, BitVec.toNat_ofNat, BitVec.toNat_ofNat, Nat.mod_eq_of_lt ha, Nat.mod_eq_of_lt hb]
  unfold bits
  simp only [e]
  simp [IntKind.wrap, IntKind.bits, IntKind.signed]
  omega
theorem nbits_and8 (a b : Nat) (ha : a < 256) (hb : b < 256) : bits .and .u8 (a : Int) (b : Int) = ((a &&& b : Nat) : Int) := by
  have h : a &&& b < 2 ^ 8 := Nat.and_lt_two_pow _ hb
  have e : (BitVec.ofInt IntKind.u8.bits (a : Int) &&& BitVec.ofInt IntKind.u8.bits (b : Int)).toNat = a &&& b := by
    show (BitVec.ofInt 8 (a : Int) &&& BitVec.ofInt 8 (b : Int)).toNat = _
    rw [BitVec.toNat_and, BitVec.ofInt_natCast, BitVec.ofInt_natCast, BitVec.toNat_ofNat, BitVec.toNat_ofNat, Nat.mod_eq_of_lt ha, Nat.mod_eq_of_lt hb]
  unfold bits
  simp only [e]
  simp [IntKind.wrap, IntKind.bits, IntKind.signed]
  omega
theorem nbits_and32 (a b : Nat) (ha : a < 4294967296) (hb : b < 4294967296) : bits .and .u32 (a : Int) (b : Int) = ((a &&& b : Nat) : Int) := by
  have h : a &&& b < 2 ^ 32 := Nat.and_lt_two_pow _ hb
  have e : (BitVec.ofInt IntKind.u32.bits (a : Int) &&& BitVec.ofInt IntKind.u32.bits (b : Int)).toNat = a &&& b := by
    show (BitVec.ofInt 32 (a : Int) &&& BitVec.ofInt 32 (b : Int)).toNat = _
    rw [BitVec.toNat_and, BitVec.ofInt_natCast, BitVec.ofInt_natCast, BitVec.toNat_ofNat, BitVec.toNat_ofNat, Nat.mod_eq_of_lt ha, Nat.mod_eq_of_lt hb]
  unfold bits
  simp only [e]
  simp [IntKind.wrap, IntKind.bits, IntKind.signed]
  omega
theorem nbits_and64 (a b : Nat) (ha : a < 18446744073709551616) (hb : b < 18446744073709551616) : bits .and .u64 (a : Int) (b : Int) = ((a &&& b : Nat) : Int) := by
  have h : a &&& b < 2 ^ 64 := Nat.and_lt_two_pow _ hb
  have e : (BitVec.ofInt IntKind.u64.bits (a : Int) &&& BitVec.ofInt IntKind.u64.bits (b : Int)).toNat = a &&& b := by
    show (BitVec.ofInt 64 (a : Int) &&& BitVec.ofInt 64 (b : Int)).toNat = _
    rw [BitVec.toNat_and, BitVec.ofInt_natCast, BitVec.ofInt_natCast, BitVec.toNat_ofNat, BitVec.toNat_ofNat, Nat.mod_eq_of_lt ha, Nat.mod_eq_of_lt hb]
  unfold bits
  simp only [e]
  simp [IntKind.wrap, IntKind.bits, IntKind.signed]
  omega
theorem nbits_or8_128 : ∀ a : Fin 256, bits .or .u8 ((a.val : Nat) : Int) 128 = (((a.val % 128 + 128 : Nat)) : Int) := by decide +kernel
theorem nbits_andNot8_128 : ∀ a : Fin 256, bits .andNot .u8 ((a.val : Nat) : Int) 128 = (((a.val % 128 : Nat)) : Int) := by decide +kernel
end Go.Proofs.Ytjoamhcehpjepab
/- The contract of codec's fits. -/
namespace Go.Proofs.Ytjoamhcehpjepab
open Go.RowKit

def fitsB (n : Int) : Bool := decide (1 ≤ n) && decide (n ≤ 8)
end Go.Proofs.Ytjoamhcehpjepab
/- The contract of codec.PutFixed: what it lays behind bytes, in new memory. -/
namespace Go.Proofs.Ytjoamhcehpjepab
open Go.RowKit

end Go.Proofs.Ytjoamhcehpjepab
/- A string as bytes: a new row of its letters. -/
namespace Go.Proofs.Ytjoamhcehpjepab
open Go.RowKit

/-- A string as bytes: a new row that reads as its letters. -/
theorem BsAt.ofStr (w : World) (s : ByteArray) (cap : Nat) (fz : Nat × Nat) (hs : s.size ≤ cap) (hc : cap ≤ maxLen) : BsAt (w.drew.alloc (.cells (bytesRow s cap) 5 fz)) (some ⟨w.heap.size, 0, none⟩) s.size cap s.data.toList := by
  have hl : s.data.toList.length = s.size := by rw [Array.length_toList]; rfl
  refine ⟨hl, hs, hc, by simp, fun _ => ⟨w.heap.size, 0, rfl, fun j hj => ?_⟩⟩
  rw [cell_of_row (w.drew.alloc (.cells (bytesRow s cap) 5 fz)) w.heap.size (0 + j) (bytesRow s cap) 5 fz (heap_alloc_new w.drew _)]
  have hj' : j < s.data.size := hj
  simp [bytesRow, List.getD, Array.getElem?_append, hj]
end Go.Proofs.Ytjoamhcehpjepab
/- The contract of ikey.Encode: the bytes of a key, as the plain function keyEnc tells them. -/
namespace Go.Proofs.Ytjoamhcehpjepab
open Go.RowKit

theorem key_or (q : Nat) (k : Int) (h1 : q ≤ 72057594037927935) (h2 : k = 0 ∨ k = 1) : bits .or .u64 ((q : Int) * 256) (IntKind.u64.wrap k) = ((q * 256 + k.toNat : Nat) : Int) := by
  obtain ⟨j, rfl, hj⟩ : ∃ j : Nat, k = (j : Int) ∧ j ≤ 1 := ⟨k.toNat, by omega, by omega⟩
  rw [show IntKind.u64.wrap (j : Int) = (j : Int) by simp [IntKind.wrap, IntKind.bits, IntKind.signed]; omega, show (q : Int) * 256 = ((q * 256 : Nat) : Int) by omega, nbits_or64 _ _ (by omega) (by omega)]
  rw [show q * 256 = q <<< 8 by rw [Nat.shiftLeft_eq], ← Nat.shiftLeft_add_eq_or_of_lt (show j < 2 ^ 8 by omega)]
  rfl

end Go.Proofs.Ytjoamhcehpjepab
/- Bytes from a place on: what 'b[k:]' gives, told for lists of bytes, wherever it lies. -/
namespace Go.Proofs.Ytjoamhcehpjepab
open Go.RowKit
end Go.Proofs.Ytjoamhcehpjepab
/- What 'b[k:]' gives, for whatever slice of bytes, nil too. -/
namespace Go.Proofs.Ytjoamhcehpjepab
open Go.RowKit
end Go.Proofs.Ytjoamhcehpjepab
