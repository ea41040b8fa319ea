/- Memory words: boxes, what turned, lists of ints as slices. -/
import Derived.Test.YtnggajconglfcaaDoorChecked
import Derived.Deep.AppendSrc
import Derived.Laws.AppendOwnNone
import Derived.Handy
import Derived.Test.YtnggajconglfcaaDoorPdPlain
import Derived.Maps.OwnSet
import Derived.Maps.Views
import Derived.Deep.AppendLies
import Derived.LaidEqlPtr
namespace Go.Proofs.YtnggajconglfcaaDoor
open Go.RowKit
abbrev at_ (p : Nat) : Value := .pointer (some ⟨p, 0, none⟩)
/-- Blocks in R, and new ones, alone turn. -/
structure Chg (R : Nat → Prop) (w w' : World) : Prop where
  os : w'.os = w.os
  tape : w'.tape = w.tape
  output : w'.output = w.output
  size : w.heap.size ≤ w'.heap.size
  block : ∀ k, k < w.heap.size → ¬ R k → w'.heap[k]? = w.heap[k]?
theorem Chg.refl (R : Nat → Prop) (w : World) : Chg R w w := ⟨rfl, rfl, rfl, Nat.le_refl _, fun _ _ _ => rfl⟩
theorem Chg.wide {R R' : Nat → Prop} {w w' : World} (h : Chg R w w') (hR : ∀ k, k < w.heap.size → R k → R' k) : Chg R' w w' := ⟨h.os, h.tape, h.output, h.size, fun k hk hn => h.block k hk (fun hr => hn (hR k hk hr))⟩
theorem Chg.andThen {R R' : Nat → Prop} {a b c : World} (h : Chg R a b) (k : Chg R' b c) (hR : ∀ k, k < a.heap.size → R' k → R k) : Chg R a c :=
  ⟨k.os.trans h.os, k.tape.trans h.tape, k.output.trans h.output, Nat.le_trans h.size k.size, fun i hi hn => (k.block i (Nat.lt_of_lt_of_le hi h.size) (fun hr => hn (hR i hi hr))).trans (h.block i hi hn)⟩
theorem Chg.grown {row : Option Nat} {w w' : World} (h : w.grownBy w' row) : Chg (fun k => row = some k) w w' := ⟨h.os, h.tape, h.output, h.size, fun k hk hn => h.block k hk (fun e => hn e.symm)⟩
theorem Chg.of {R : Nat → Prop} {w w' : World} (h : Below w.heap.size w w') : Chg R w w' := ⟨h.os, h.tape, h.output, h.size, fun k hk _ => h.block k hk⟩
theorem Chg.drew {R : Nat → Prop} {w w' : World} (h : Chg R w w') : Chg R w w'.drew := ⟨h.os, h.tape, h.output, h.size, h.block⟩
theorem Chg.alloc {R : Nat → Prop} {w w' : World} (h : Chg R w w') (o : Obj) : Chg R w (w'.alloc o) :=
  ⟨h.os, h.tape, h.output, by have := h.size; simp; omega, fun k hk hr => (Below.heap_alloc _ _ k (Nat.lt_of_lt_of_le hk h.size)).trans (h.block k hk hr)⟩
theorem Chg.set {R : Nat → Prop} {w w' : World} (h : Chg R w w') {p : Nat} (hp : p < w.heap.size → R p) (j : Nat) (v : Value) : Chg R w (w'.setCell ⟨p, j, none⟩ v) :=
  ⟨h.os, h.tape, h.output, by have := h.size; simpa using this, fun k hk hr => (Below.heap_setCell _ _ _ k (fun e => hr (by rw [e] at hk ⊢; exact hp hk))).trans (h.block k hk hr)⟩
theorem Chg.below {R : Nat → Prop} {B : Nat} {w w' : World} (h : Chg R w w') (hR : ∀ k, R k → B ≤ k) (hB : B ≤ w.heap.size) : Below B w w' := ⟨h.os, h.tape, h.output, h.size, fun k hk => h.block k (Nat.lt_of_lt_of_le hk hB) (fun hr => by have := hR k hr; omega)⟩
/-- Block p holds these cells. -/
def Box (w : World) (p : Nat) (t : TypeId) (arr : Array Value) : Prop := w.heap[p]? = some (.cells arr t (0, 0))
theorem Box.lt {w : World} {p : Nat} {t : TypeId} {arr : Array Value} (h : Box w p t arr) : p < w.heap.size := (Array.getElem?_eq_some_iff.1 h).1
theorem Box.cell {w : World} {p : Nat} {t : TypeId} {arr : Array Value} (h : Box w p t arr) (j : Nat) : w.cell? ⟨p, j, none⟩ = arr[j]? := cell_of_row w p j arr t (0, 0) h
theorem Box.soft {w : World} {p : Nat} {t : TypeId} {arr : Array Value} (h : Box w p t arr) (j : Nat) : w.frozen? ⟨p, j, none⟩ = false := by
  unfold World.frozen?
  rw [show w.heap[p]? = _ from h]
  simp
theorem Box.set {w : World} {p : Nat} {t : TypeId} {arr : Array Value} (h : Box w p t arr) (j : Nat) (v : Value) : Box (w.setCell ⟨p, j, none⟩ v) p t (arr.setIfInBounds j v) := by
  have hlt := h.lt
  unfold Box at h ⊢
  have e := Array.getElem?_eq_some_iff.1 h
  obtain ⟨_, e⟩ := e
  simp [World.setCell, Array.getElem?_modify, h]
theorem Box.eq {w : World} {p : Nat} {t : TypeId} {arr arr' : Array Value} (h : Box w p t arr) (e : arr = arr') : Box w p t arr' := e ▸ h
theorem Box.kept {w w' : World} {p : Nat} {t : TypeId} {arr : Array Value} (h : Box w p t arr) (hk : w'.heap[p]? = w.heap[p]?) : Box w' p t arr := hk.trans h
theorem Box.new (w : World) (t : TypeId) (arr : Array Value) : Box (w.alloc (.cells arr t)) w.heap.size t arr := heap_alloc_new w _
theorem Box.alloc {w : World} {p : Nat} {t : TypeId} {arr : Array Value} (h : Box w p t arr) (o : Obj) : Box (w.alloc o) p t arr := h.kept (Below.heap_alloc w o p h.lt)
theorem Box.other {w : World} {p q : Nat} {t : TypeId} {arr : Array Value} (h : Box w p t arr) (hq : p ≠ q) (j : Nat) (v : Value) : Box (w.setCell ⟨q, j, none⟩ v) p t arr := h.kept (Below.heap_setCell _ _ _ _ hq)
def tagOf : Obj → Nat
  | .cells _ t _ => t
  | .map _ _ => 1000
  | _ => 2000
def tag (w : World) (k : Nat) : Option Nat := (w.heap[k]?).map tagOf
theorem tag_ne {w : World} {a b i j : Nat} (ha : tag w a = some i) (hb : tag w b = some j) (h : i ≠ j) : a ≠ b := by
  rintro rfl
  rw [ha] at hb
  exact h (Option.some.inj hb)
theorem tag_lt {w : World} {a i : Nat} (ha : tag w a = some i) : a < w.heap.size := by
  unfold tag at ha
  cases h : w.heap[a]? with
  | none => rw [h] at ha; cases ha
  | some o => exact (Array.getElem?_eq_some_iff.1 h).1
theorem Box.tag {w : World} {p : Nat} {t : TypeId} {arr : Array Value} (h : Box w p t arr) : tag w p = some t := by
  unfold Go.Proofs.YtnggajconglfcaaDoor.tag
  rw [show w.heap[p]? = _ from h]
  rfl
theorem row_tag {w : World} {B : Nat} {e : TypeId} {size n : Nat} {v : Value} {xs : List Value} (h : w.ownsRow B e size v n xs) {b : Nat} (hb : v.ownBlock = some b) : tag w b = some e := by
  rcases h.2 with ⟨hv, _⟩ | ⟨g, c, cur, hv, _, hg, _⟩
  · rw [hv] at hb; cases hb
  · rw [hv] at hb
    obtain rfl := Option.some.inj hb
    unfold tag
    rw [hg]
    rfl
theorem row_same {w w' : World} {B : Nat} {e : TypeId} {size n : Nat} {v : Value} {xs : List Value} (h : w.ownsRow B e size v n xs) (hk : ∀ b, v.ownBlock = some b → w'.heap[b]? = w.heap[b]?) : w'.ownsRow B e size v n xs := by
  refine ⟨h.1, ?_⟩
  rcases h.2 with hn | ⟨g, c, cur, hv, hB, hg, rest⟩
  · exact .inl hn
  · exact .inr ⟨g, c, cur, hv, hB, (hk g (by rw [hv]; rfl)).trans hg, rest⟩
def blkOf (a : Option Addr) : Option Nat := a.map (·.block)
theorem own_blk (a : Option Addr) (n c : Nat) : (Value.slice a n c).ownBlock = blkOf a := by
  cases a <;> rfl
/-- The slice value reads as ints. -/
structure IsAt (w : World) (a : Option Addr) (len cap : Nat) (l : List Int) : Prop where
  size : l.length = len
  le : len ≤ cap
  max : cap ≤ maxLen
  bare : a = none → cap = 0
  wf : ∀ j, j < len → -9223372036854775808 ≤ l.getD j 0 ∧ l.getD j 0 ≤ 9223372036854775807
  here : 0 < len → ∃ b off, a = some ⟨b, off, none⟩ ∧ ∀ j, j < len → w.cell? ⟨b, off + j, none⟩ = some (.int .i64 (l.getD j 0))
theorem IsAt.below {B : Nat} {w w' : World} {a : Option Addr} {len cap : Nat} {l : List Int} (h : IsAt w a len cap l) (hB : w.heap.size ≤ B) (hb : Below B w w') : IsAt w' a len cap l :=
  ⟨h.size, h.le, h.max, h.bare, h.wf, fun hp => by
    obtain ⟨b, off, ha, hc⟩ := h.here hp
    refine ⟨b, off, ha, fun j hj => ?_⟩
    rw [hb.cell (Nat.lt_of_lt_of_le (World.block_lt_of_cell? w _ (hc j hj)) hB)]
    exact hc j hj⟩
theorem IsAt.nil (w : World) : IsAt w none 0 0 [] := ⟨rfl, Nat.le_refl _, Nat.zero_le _, fun _ => rfl, fun _ h => absurd h (Nat.not_lt_zero _), fun h => absurd h (Nat.lt_irrefl _)⟩
def in64 (n : Int) : Prop := -9223372036854775808 ≤ n ∧ n ≤ 9223372036854775807
theorem slice_of_row {w : World} {B : Nat} {e : TypeId} {size n : Nat} {v : Value} {xs : List Value} (h : w.ownsRow B e size v n xs) : ∃ a c, v = .slice a n c := by
  rcases h.2 with ⟨rfl, rfl⟩ | ⟨g, c, cur, rfl, _⟩
  · exact ⟨none, 0, rfl⟩
  · exact ⟨_, c, rfl⟩
theorem wpList_appV (w : World) {ops : Array Oper} {rest : List Oper} {o : Oper} {a : Act} {Q : Exit → Act → World → Prop} (hgd : o.guard = none) (s x : Operand) (t e : TypeId)
    (ho : o.op = .call { callee := .builtin .append, args := #[s, x], argTypes := #[t, t] }) (ht : Tryd.prog.underlying t = some (.slice e)) (z : Value) (size bytes : Nat) (hinfo : (Tryd.prog.info? e).map (fun i => (i.zero, i.size, i.bytes)) = some (some z, size, bytes)) (hzs : z.cells.size = size) (hsz : 0 < size)
    (B : Nat) (a1 : Option Addr) (n1 c1 : Nat) (xs : List Value) (hs : a.eval s = .slice a1 n1 c1) (hown : w.ownsRow B e size (.slice a1 n1 c1) n1 xs)
    (a2 : Option Addr) (n2 c2 : Nat) (news : List Value) (hx : a.eval x = .slice a2 n2 c2) (hbare : a2 = none → n2 = 0 ∧ c2 = 0) (hl : news.length = n2 * size) (hnews : ∀ ad, a2 = some ad → ∀ j u, news[j]? = some u → w.cell? (ad.add j) = some u) (h1 : ∀ u ∈ news, u.oneCell' = true)
    (h63 : n1 + n2 ≤ maxLen) (hbytes : (n1 + n2) * bytes ≤ 140737488355328) (hB : B ≤ w.heap.size)
    (h : ∀ a' c' w', w'.ownsRow B e size (.slice a' (n1 + n2) c') (n1 + n2) (xs ++ news) → Below B w w' → w.grownBy w' (blkOf a1) → wpList Tryd.prog ops Q rest (a.put o.dst (.slice a' (n1 + n2) c')) w') :
    wpList Tryd.prog ops Q (o :: rest) a w := by
  obtain ⟨i, hi, hz0, hz1, hz2⟩ := info_parts hinfo
  have fin : ∀ v' w', w'.ownsRow B e size v' (n1 + n2) (xs ++ news) → w.grownBy w' (Value.slice a1 n1 c1).ownBlock → wpList Tryd.prog ops Q rest (a.put o.dst v') w' := by
    intro v' w' hr hg
    obtain ⟨a', c', rfl⟩ := slice_of_row hr
    exact h a' c' w' hr ((Below.refl B w).grown hg hB (fun k hk => (hown.lt k hk).1)) (by rw [← own_blk a1 n1 c1]; exact hg)
  cases a2 with
  | none =>
    obtain ⟨rfl, rfl⟩ := hbare rfl
    obtain rfl := List.eq_nil_of_length_eq_zero (by rw [hl]; simp : news.length = 0)
    refine wpList_append_own_none hgd s x _ ho B e i size ht hi _ n1 _ hs hown hx ?_
    exact fin _ w (by simpa using hown) (World.grownBy.refl _ _)
  | some ad => exact wpList_append_own w hgd s x _ ho B e i z size bytes ht hi hz0 hz1 hz2 hzs hsz _ n1 _ hs hown ad n2 c2 news hx hl (hnews ad rfl) h1 h63 hbytes hB (fun v' w' hr hg _ => fin v' w' hr hg)
def cellsN (l : List Int) : List Value := l.map (Value.int .i64)
theorem cellsN_one (l : List Int) : ∀ u ∈ cellsN l, u.oneCell' = true := by
  intro u hu
  obtain ⟨_, _, rfl⟩ := List.mem_map.1 hu
  rfl
theorem cellsN_get (l : List Int) (j : Nat) (h : j < l.length) : (cellsN l)[j]? = some (.int .i64 (l.getD j 0)) := by simp [cellsN, List.getD, h]
/-- A row of ints of the call's own. -/
structure OwnN (w : World) (B : Nat) (a : Option Addr) (len cap : Nat) (l : List Int) : Prop where
  size : l.length = len
  row : w.ownsRow B 3 1 (.slice a len cap) len (cellsN l)
  wf : ∀ n ∈ l, in64 n
theorem row_addr {w : World} {B : Nat} {e : TypeId} {size n cap : Nat} {a : Option Addr} {xs : List Value} (h : w.ownsRow B e size (.slice a n cap) n xs) : n ≤ cap ∧ cap ≤ maxLen ∧ (a = none → cap = 0) ∧ (0 < n → ∃ g, a = some ⟨g, 0, none⟩) := by
  rcases h.2 with ⟨hv, hn⟩ | ⟨g, c, cur, hv, _, _, hn, hc, _⟩
  · simp only [Value.slice.injEq] at hv
    obtain ⟨rfl, rfl, rfl⟩ := hv
    exact ⟨Nat.le_refl _, Nat.zero_le _, fun _ => rfl, fun h0 => absurd h0 (Nat.lt_irrefl _)⟩
  · simp only [Value.slice.injEq, true_and] at hv
    obtain ⟨rfl, rfl⟩ := hv
    exact ⟨hn, hc, fun h0 => by simp at h0, fun _ => ⟨g, rfl⟩⟩
theorem OwnN.is {w : World} {B : Nat} {a : Option Addr} {len cap : Nat} {l : List Int} (h : OwnN w B a len cap l) : IsAt w a len cap l := by
  obtain ⟨h1, h2, h3, h4⟩ := row_addr h.row
  have hs := h.size
  refine ⟨hs, h1, h2, h3, fun j hj => h.wf _ (by simp [List.getD, hs, hj]), fun hp => ?_⟩
  obtain ⟨g, rfl⟩ := h4 hp
  refine ⟨g, 0, rfl, fun j hj => ?_⟩
  rw [Nat.zero_add, h.row.cellAt j (by omega), cellsN_get l j (by omega)]
theorem row_below {w w' : World} {B : Nat} {e : TypeId} {size n : Nat} {v : Value} {xs : List Value} (h : w.ownsRow B e size v n xs) (hb : Below w.heap.size w w') : w'.ownsRow B e size v n xs :=
  row_same h fun b e => hb.block b (tag_lt (row_tag h e))
theorem OwnN.below {w w' : World} {B : Nat} {a : Option Addr} {len cap : Nat} {l : List Int} (h : OwnN w B a len cap l) (hb : Below w.heap.size w w') : OwnN w' B a len cap l := ⟨h.size, row_below h.row hb, h.wf⟩
theorem infoI64 : (Tryd.prog.info? 3).map (fun i => (i.zero, i.size, i.bytes)) = some (some (.int .i64 0), 1, 8) := by kernel_rfl
end Go.Proofs.YtnggajconglfcaaDoor
/- A list of keys in levels with its operations, plainly: what a step does, what holds between two steps, and how many steps are left. -/
namespace Go.Proofs.YtnggajconglfcaaDoor
structure PO where
  key : ByteArray
  height : Nat
  ph : Nat
  level : Nat
  pos : Nat
  seen : Option Nat
  ahead : Nat → Nat
def po0 : PO := ⟨⟨#[]⟩, 0, 3, 0, 0, none, fun _ => 0⟩
structure PS where
  room : Nat
  ops : List PO
  lev : Nat → List Nat
def PS.op (S : PS) (i : Nat) : PO := S.ops.getD i po0
def PS.key (S : PS) (i : Nat) : ByteArray := (S.op i).key
def PO.upto (o : PO) : Nat := if o.ph = 3 then o.height else if o.ph = 0 then 0 else o.level
def PS.OkAt (S : PS) (k : ByteArray) (l a : Nat) : Prop := a = 0 ∨ ∃ j, a = j + 1 ∧ j ∈ S.lev l ∧ kl (S.key j) k = true
structure PS.OpOk (S : PS) (o : PO) : Prop where
  ph : o.ph ≤ 3
  high : 1 ≤ o.height ∧ o.height ≤ 8
  low : o.ph ≠ 3 → o.level < 8 ∧ (o.ph ≠ 0 → o.level < o.height)
  pos : o.ph ≠ 3 → S.OkAt o.key o.level o.pos
  ahead : o.ph ≠ 3 → ∀ l, o.level < l → l < 8 → S.OkAt o.key l (o.ahead l)
  seen : o.ph = 1 → ∀ j, o.seen = some j → j ∈ S.lev o.level ∧ kl o.key (S.key j) = true
  sight : ∀ j, o.seen = some j → j < S.ops.length
structure PS.Inv (S : PS) : Prop where
  room : S.room ≤ 1000
  size : S.ops.length ≤ S.room
  uniq : ∀ i j, i < S.ops.length → j < S.ops.length → S.key i = S.key j → i = j
  long : ∀ i, i < S.ops.length → (S.key i).size ≤ 9223372036854775807
  sorted : ∀ l, l < 8 → (S.lev l).Pairwise (fun x y => kl (S.key x) (S.key y) = true)
  mem : ∀ l, l < 8 → ∀ i, i ∈ S.lev l ↔ i < S.ops.length ∧ l < (S.op i).upto
  ok : ∀ i, i < S.ops.length → S.OpOk (S.op i)
def PS.put (S : PS) (i : Nat) (o : PO) (lev : Nat → List Nat) : PS := { S with ops := S.ops.set i o, lev := lev }
section
variable {S : PS} {i : Nat} {o : PO} {lev : Nat → List Nat}
theorem PS.put_len : (S.put i o lev).ops.length = S.ops.length := by simp [PS.put]
theorem PS.put_op (hi : i < S.ops.length) : (S.put i o lev).op i = o := by simp [PS.put, PS.op, List.getD, hi]
theorem PS.put_other {j : Nat} (h : j ≠ i) : (S.put i o lev).op j = S.op j := by
  simp [PS.put, PS.op, List.getD, Ne.symm h]
theorem PS.put_key (hk : o.key = S.key i) (j : Nat) : (S.put i o lev).key j = S.key j := by
  by_cases h : j = i
  · subst h
    by_cases hi : j < S.ops.length
    · unfold PS.key
      rw [PS.put_op hi]
      exact hk
    · simp [PS.put, PS.key, PS.op, List.getD, hi]
  · unfold PS.key
    rw [PS.put_other h]
theorem PS.OkAt.more {S S' : PS} {k : ByteArray} {l a : Nat} (h : S.OkAt k l a) (hk : ∀ j, S'.key j = S.key j) (hs : ∀ x, x ∈ S.lev l → x ∈ S'.lev l) : S'.OkAt k l a := by
  rcases h with h | ⟨j, h1, h2, h3⟩
  · exact .inl h
  · exact .inr ⟨j, h1, hs j h2, by rw [hk]; exact h3⟩
theorem PS.OpOk.more {S S' : PS} {o : PO} (h : S.OpOk o) (hn : S'.ops.length = S.ops.length) (hk : ∀ j, S'.key j = S.key j) (hs : ∀ l x, x ∈ S.lev l → x ∈ S'.lev l) : S'.OpOk o :=
  ⟨h.ph, h.high, h.low, fun h0 => (h.pos h0).more hk (hs _), fun h0 l h1 h2 => (h.ahead h0 l h1 h2).more hk (hs _), fun h1 j hj => by rw [hk]; exact ⟨hs _ _ (h.seen h1 j hj).1, (h.seen h1 j hj).2⟩, fun j hj => by rw [hn]; exact h.sight j hj⟩
theorem PS.Inv.turn (h : S.Inv) (hi : i < S.ops.length) (hk : o.key = S.key i) (hsub : ∀ l x, x ∈ S.lev l → x ∈ lev l)
    (hsort : ∀ l, l < 8 → (lev l).Pairwise (fun x y => kl (S.key x) (S.key y) = true)) (hmem : ∀ l, l < 8 → ∀ j, j ∈ lev l ↔ (j = i ∧ l < o.upto) ∨ (j ≠ i ∧ j ∈ S.lev l)) (hok : (S.put i o lev).OpOk o) : (S.put i o lev).Inv where
  room := h.room
  size := by rw [PS.put_len]; exact h.size
  uniq := fun a b ha hb e => by
    rw [PS.put_len] at ha hb
    rw [PS.put_key hk, PS.put_key hk] at e
    exact h.uniq a b ha hb e
  long := fun a ha => by
    rw [PS.put_len] at ha
    rw [PS.put_key hk]
    exact h.long a ha
  sorted := fun l hl => (hsort l hl).imp fun {x y} hxy => by rw [PS.put_key hk, PS.put_key hk]; exact hxy
  mem := fun l hl j => by
    rw [PS.put_len]
    show j ∈ lev l ↔ _
    rw [hmem l hl j]
    by_cases hj : j = i
    · subst hj
      rw [PS.put_op hi]
      simp [hi]
    · rw [PS.put_other hj]
      simp only [hj, false_and, false_or, ne_eq, not_false_eq_true, true_and]
      exact h.mem l hl j
  ok := fun j hj => by
    rw [PS.put_len] at hj
    by_cases e : j = i
    · subst e
      rw [PS.put_op hi]
      exact hok
    · rw [PS.put_other e]
      exact (h.ok j hj).more PS.put_len (PS.put_key hk) hsub
theorem PS.Inv.turn0 (h : S.Inv) (hi : i < S.ops.length) (hk : o.key = S.key i) (hu : o.upto = (S.op i).upto) (hok : S.OpOk o) : (S.put i o S.lev).Inv :=
  h.turn hi hk (fun _ _ hx => hx) h.sorted (fun l hl j => by
    by_cases hj : j = i
    · subst hj
      rw [h.mem l hl j, hu]
      simp [hi]
    · simp [hj]) (hok.more PS.put_len (PS.put_key hk) fun _ _ hx => hx)
end
def PS.nx (S : PS) (i : Nat) : Option Nat := nxt (S.lev (S.op i).level) (S.op i).pos
def PS.goes (S : PS) (i : Nat) : Bool := match S.nx i with
  | none => false
  | some j => kl (S.key j) (S.key i)
def upd (f : Nat → Nat) (l a : Nat) : Nat → Nat := fun x => if x = l then a else f x
def PS.went (S : PS) (i : Nat) : PO := { S.op i with seen := S.nx i, pos := match S.nx i with | some j => j + 1 | none => 0 }
def PS.down (S : PS) (i : Nat) : PO := { S.op i with seen := S.nx i, ahead := upd (S.op i).ahead (S.op i).level (S.op i).pos, level := (S.op i).level - 1 }
def PS.low (S : PS) (i : Nat) : PO := { S.op i with seen := S.nx i, ahead := upd (S.op i).ahead (S.op i).level (S.op i).pos, ph := 1 }
def PS.saw (S : PS) (i : Nat) : PO := { S.op i with seen := S.nx i, ph := 1 }
def PS.missed (S : PS) (i : Nat) : PO := { S.op i with ph := 2 }
def PS.climbs (S : PS) (i : Nat) : PO := { S.op i with level := (S.op i).level + 1, pos := (S.op i).ahead ((S.op i).level + 1), ph := 2 }
def PS.ended (S : PS) (i : Nat) : PO := { S.op i with ph := 3 }
def PS.more (S : PS) (i : Nat) : Nat → List Nat := fun l => if l = (S.op i).level then ins i (S.lev l) (S.op i).pos else S.lev l
def PS.step (S : PS) (i : Nat) : PS :=
  if (S.op i).ph = 0 then
    if S.goes i then S.put i (S.went i) S.lev
    else if (S.op i).level = 0 then S.put i (S.low i) S.lev
    else S.put i (S.down i) S.lev
  else if (S.op i).ph = 1 then
    if S.nx i = (S.op i).seen then
      if (S.op i).level + 1 = (S.op i).height then S.put i (S.ended i) (S.more i) else S.put i (S.climbs i) (S.more i)
    else S.put i (S.missed i) S.lev
  else if (S.op i).ph = 2 then
    if S.goes i then S.put i (S.went i) S.lev else S.put i (S.saw i) S.lev
  else S
section
variable {S : PS} {i : Nat}
theorem PS.Inv.nodup (h : S.Inv) {l : Nat} (hl : l < 8) : (S.lev l).Nodup := (h.sorted l hl).imp fun {x y} hxy e => by
  subst e
  rw [kl_irr] at hxy
  cases hxy
theorem PS.Inv.lt (h : S.Inv) {l : Nat} (hl : l < 8) {j : Nat} (hj : j ∈ S.lev l) : j < S.ops.length := ((h.mem l hl j).1 hj).1
theorem PS.OkAt.inL {S : PS} {k : ByteArray} {l a : Nat} (h : S.OkAt k l a) : InL (S.lev l) a := by
  rcases h with h | ⟨j, h1, h2, _⟩
  · exact .inl h
  · exact .inr ⟨j, h1, h2⟩
theorem PS.Inv.nxLt (h : S.Inv) (hi : i < S.ops.length) (hp : (S.op i).ph ≠ 3) {j : Nat} (hj : S.nx i = some j) : j < S.ops.length := h.lt ((h.ok i hi).low hp).1 (nxt_mem hj)
theorem PS.goes_some (h : S.goes i = true) : ∃ j, S.nx i = some j ∧ kl (S.key j) (S.key i) = true := by
  unfold PS.goes at h
  split at h
  · cases h
  · rename_i j hj
    exact ⟨j, hj, h⟩
theorem PS.Inv.nxGe (h : S.Inv) (hi : i < S.ops.length) (hp : (S.op i).ph ≠ 3) (hg : S.goes i = false) {j : Nat} (hj : S.nx i = some j) (hji : j ≠ i) : kl (S.key i) (S.key j) = true := by
  unfold PS.goes at hg
  rw [hj] at hg
  cases hk : kl (S.key i) (S.key j) with
  | true => rfl
  | false => exact absurd (h.uniq _ _ (h.nxLt hi hp hj) hi (kl_total hg hk)) hji
theorem PS.Inv.notIn (h : S.Inv) (hi : i < S.ops.length) (hp : (S.op i).ph ≠ 3) : i ∉ S.lev (S.op i).level := fun hc => by
  have h1 := (h.mem _ ((h.ok i hi).low hp).1 i).1 hc
  have h2 := h1.2
  unfold PO.upto at h2
  rw [if_neg hp] at h2
  split at h2 <;> omega
theorem PS.Inv.went (h : S.Inv) (hi : i < S.ops.length) (hp : (S.op i).ph = 0 ∨ (S.op i).ph = 2) (hg : S.goes i = true) : (S.put i (S.went i) S.lev).Inv := by
  obtain ⟨j, hj, hk⟩ := PS.goes_some hg
  have ok := h.ok i hi
  have h3 : (S.op i).ph ≠ 3 := by omega
  refine h.turn0 hi rfl rfl ⟨ok.ph, ok.high, ok.low, fun _ => ?_, ok.ahead, fun e => ?_, fun j' hj' => ?_⟩
  · refine .inr ⟨j, ?_, nxt_mem hj, hk⟩
    simp [PS.went, hj]
  · simp only [PS.went] at e
    omega
  · exact h.nxLt hi h3 hj'
theorem PS.OkAt.upd {S : PS} {o : PO} {k : ByteArray} (h : o.ph ≠ 3 → ∀ l, o.level < l → l < 8 → S.OkAt k l (o.ahead l)) (h3 : o.ph ≠ 3) (hpos : S.OkAt k o.level o.pos) {l : Nat} (hl : o.level ≤ l) (h8 : l < 8) : S.OkAt k l (upd o.ahead o.level o.pos l) := by
  unfold Go.Proofs.YtnggajconglfcaaDoor.upd
  split
  · rename_i e
    subst e
    exact hpos
  · exact h h3 l (by omega) h8
theorem PS.Inv.down (h : S.Inv) (hi : i < S.ops.length) (hp : (S.op i).ph = 0) : (S.put i (S.down i) S.lev).Inv := by
  have ok := h.ok i hi
  have h3 : (S.op i).ph ≠ 3 := by omega
  have h8 := (ok.low h3).1
  refine h.turn0 hi rfl ?_ ⟨ok.ph, ok.high, fun _ => ⟨by simp only [PS.down]; omega, fun e => absurd hp e⟩, fun _ => ?_, fun _ l h1 h2 => ?_, fun e => ?_, fun j' hj' => h.nxLt hi h3 hj'⟩
  · simp [PO.upto, PS.down, hp]
  · rcases ok.pos h3 with e | ⟨j, e, hm, hk⟩
    · exact .inl e
    · refine .inr ⟨j, e, ?_, hk⟩
      show j ∈ S.lev ((S.op i).level - 1)
      have := (h.mem _ h8 j).1 hm
      exact (h.mem _ (by omega) j).2 ⟨this.1, by omega⟩
  · simp only [PS.down] at h1 ⊢
    exact PS.OkAt.upd ok.ahead h3 (ok.pos h3) (by omega) h2
  · simp only [PS.down] at e
    omega
theorem PS.Inv.fresh (h : S.Inv) (hi : i < S.ops.length) (h3 : (S.op i).ph ≠ 3) (hg : S.goes i = false) : ∀ j, S.nx i = some j → j ∈ S.lev (S.op i).level ∧ kl (S.key i) (S.key j) = true := fun j hj =>
  ⟨nxt_mem hj, h.nxGe hi h3 hg hj (fun e => h.notIn hi h3 (by have := nxt_mem hj; rw [e] at this; exact this))⟩
theorem PS.Inv.lowest (h : S.Inv) (hi : i < S.ops.length) (hp : (S.op i).ph = 0) (hl : (S.op i).level = 0) (hg : S.goes i = false) : (S.put i (S.low i) S.lev).Inv := by
  have ok := h.ok i hi
  have h3 : (S.op i).ph ≠ 3 := by omega
  refine h.turn0 hi rfl ?_ ⟨by simp [PS.low], ok.high, fun _ => ⟨(ok.low h3).1, fun _ => by simp only [PS.low]; have := ok.high; omega⟩, fun _ => ok.pos h3, fun _ l h1 h2 => ?_, fun _ => h.fresh hi h3 hg, fun j' hj' => h.nxLt hi h3 hj'⟩
  · simp [PO.upto, PS.low, hp, hl]
  · simp only [PS.low] at h1 ⊢
    exact PS.OkAt.upd ok.ahead h3 (ok.pos h3) (by omega) h2
theorem PS.Inv.saw (h : S.Inv) (hi : i < S.ops.length) (hp : (S.op i).ph = 2) (hg : S.goes i = false) : (S.put i (S.saw i) S.lev).Inv := by
  have ok := h.ok i hi
  have h3 : (S.op i).ph ≠ 3 := by omega
  refine h.turn0 hi rfl ?_ ⟨by simp [PS.saw], ok.high, fun _ => ⟨(ok.low h3).1, fun _ => (ok.low h3).2 (by omega)⟩, fun _ => ok.pos h3, fun _ => ok.ahead h3, fun _ => h.fresh hi h3 hg, fun j' hj' => h.nxLt hi h3 hj'⟩
  simp [PO.upto, PS.saw, hp]
theorem PS.Inv.missed (h : S.Inv) (hi : i < S.ops.length) (hp : (S.op i).ph = 1) : (S.put i (S.missed i) S.lev).Inv := by
  have ok := h.ok i hi
  have h3 : (S.op i).ph ≠ 3 := by omega
  refine h.turn0 hi rfl ?_ ⟨by simp [PS.missed], ok.high, fun _ => ⟨(ok.low h3).1, fun _ => (ok.low h3).2 (by omega)⟩, fun _ => ok.pos h3, fun _ => ok.ahead h3, fun e => by simp [PS.missed] at e, ok.sight⟩
  simp [PO.upto, PS.missed, hp]
end
theorem ins_sorted {r : Nat → Nat → Prop} (tr : ∀ x y z, r x y → r y z → r x z) {i : Nat} : ∀ {l : List Nat} {a : Nat}, l.Pairwise r → InL l a → (∀ j, a = j + 1 → r j i) → (∀ j, nxt l a = some j → r i j) → (ins i l a).Pairwise r
  | [], a, _, _, _, _ => by simp [ins]
  | y :: s, a, hs, ha, h1, h2 => by
    have hs' := List.pairwise_cons.1 hs
    unfold ins
    split
    · rename_i h0
      subst h0
      have := h2 y (by simp [nxt])
      refine List.pairwise_cons.2 ⟨fun x hx => ?_, hs⟩
      rcases List.mem_cons.1 hx with rfl | hx
      · exact this
      · exact tr _ _ _ this (hs'.1 x hx)
    · rename_i h0
      split
      · rename_i e
        subst e
        have yi := h1 y rfl
        simp only [nxt, if_neg (Nat.succ_ne_zero y), if_pos] at h2
        refine List.pairwise_cons.2 ⟨fun x hx => ?_, List.pairwise_cons.2 ⟨fun x hx => ?_, hs'.2⟩⟩
        · rcases List.mem_cons.1 hx with rfl | hx
          · exact yi
          · exact hs'.1 x hx
        · cases s with
          | nil => cases hx
          | cons z t =>
            have iz := h2 z rfl
            rcases List.mem_cons.1 hx with rfl | hx
            · exact iz
            · exact tr _ _ _ iz ((List.pairwise_cons.1 hs'.2).1 x hx)
      · rename_i e
        have hr : InL s a := by
          rcases ha with rfl | ⟨j, rfl, hj⟩
          · exact absurd rfl h0
          · rcases List.mem_cons.1 hj with rfl | hj
            · exact absurd rfl e
            · exact .inr ⟨j, rfl, hj⟩
        simp only [nxt, if_neg h0, if_neg e] at h2
        refine List.pairwise_cons.2 ⟨fun x hx => ?_, ins_sorted tr hs'.2 hr h1 h2⟩
        rcases mem_ins.1 hx with rfl | hx
        · obtain ⟨j, rfl, hj⟩ : ∃ j, a = j + 1 ∧ j ∈ s := by
            rcases hr with rfl | hr
            · exact absurd rfl h0
            · exact hr
          exact tr _ _ _ (hs'.1 j hj) (h1 j rfl)
        · exact hs'.1 x hx
section
variable {S : PS} {i : Nat}
theorem PS.mem_more {l j : Nat} : j ∈ S.more i l ↔ (l = (S.op i).level ∧ j = i) ∨ j ∈ S.lev l := by
  unfold PS.more
  split
  · rename_i e
    rw [mem_ins]
    simp [e]
  · rename_i e
    simp [e]
theorem PS.Inv.laid (h : S.Inv) (hi : i < S.ops.length) (hp : (S.op i).ph = 1) (hn : S.nx i = (S.op i).seen) {o : PO} (hk : o.key = S.key i) (hu : o.upto = (S.op i).level + 1) (hok : S.OpOk o) : (S.put i o (S.more i)).Inv := by
  have ok := h.ok i hi
  have h3 : (S.op i).ph ≠ 3 := by omega
  have h8 := (ok.low h3).1
  have hsub : ∀ l x, x ∈ S.lev l → x ∈ S.more i l := fun l x hx => PS.mem_more.2 (.inr hx)
  have hup : (S.op i).upto = (S.op i).level := by simp [PO.upto, hp]
  refine h.turn hi hk hsub (fun l hl => ?_) (fun l hl j => ?_) (hok.more PS.put_len (PS.put_key hk) hsub)
  · unfold PS.more
    split
    · rename_i e
      subst e
      refine ins_sorted (r := fun x y => kl (S.key x) (S.key y) = true) (fun x y z => kl_trans) (h.sorted _ hl) (ok.pos h3).inL (fun j hj => ?_) (fun j hj => ?_)
      · rcases ok.pos h3 with e | ⟨j', e, _, hk'⟩
        · omega
        · obtain rfl : j = j' := by omega
          exact hk'
      · exact (ok.seen hp j (by rw [← hn]; exact hj)).2
    · exact h.sorted l hl
  · rw [PS.mem_more]
    by_cases hj : j = i
    · subst hj
      rw [h.mem l hl j, hup, hu]
      simp [hi]
      omega
    · simp [hj]
theorem PS.Inv.ended (h : S.Inv) (hi : i < S.ops.length) (hp : (S.op i).ph = 1) (hn : S.nx i = (S.op i).seen) (hl : (S.op i).level + 1 = (S.op i).height) : (S.put i (S.ended i) (S.more i)).Inv := by
  have ok := h.ok i hi
  refine h.laid hi hp hn rfl (by simp [PO.upto, PS.ended, hl]) ⟨by simp [PS.ended], ok.high, fun e => absurd rfl e, fun e => absurd rfl e, fun e => absurd rfl e, fun e => by simp [PS.ended] at e, ok.sight⟩
theorem PS.Inv.climbs (h : S.Inv) (hi : i < S.ops.length) (hp : (S.op i).ph = 1) (hn : S.nx i = (S.op i).seen) (hl : (S.op i).level + 1 ≠ (S.op i).height) : (S.put i (S.climbs i) (S.more i)).Inv := by
  have ok := h.ok i hi
  have h3 : (S.op i).ph ≠ 3 := by omega
  have h8 := ok.low h3
  have hh := h8.2 (by omega)
  have h9 := ok.high
  refine h.laid hi hp hn rfl (by simp [PO.upto, PS.climbs]) ⟨by simp [PS.climbs], ok.high, fun _ => ⟨?_, fun _ => ?_⟩, fun _ => ?_, fun _ l h1 h2 => ?_, fun e => by simp [PS.climbs] at e, ok.sight⟩
  · simp only [PS.climbs]; omega
  · simp only [PS.climbs]; omega
  · exact ok.ahead h3 _ (by simp only [PS.climbs]; omega) (by simp only [PS.climbs]; omega)
  · simp only [PS.climbs] at h1
    exact ok.ahead h3 l (by omega) h2
theorem PS.Inv.step (h : S.Inv) (hi : i < S.ops.length) : (S.step i).Inv := by
  unfold PS.step
  split
  · rename_i h0
    split
    · rename_i hg; exact h.went hi (.inl h0) hg
    · rename_i hg
      have hg' : S.goes i = false := by simpa using hg
      split
      · rename_i hl; exact h.lowest hi h0 hl hg'
      · exact h.down hi h0
  · split
    · rename_i h1
      split
      · rename_i hn
        split
        · rename_i hl; exact h.ended hi h1 hn hl
        · rename_i hl; exact h.climbs hi h1 hn hl
      · exact h.missed hi h1
    · split
      · rename_i h2
        split
        · rename_i hg; exact h.went hi (.inr h2) hg
        · rename_i hg; exact h.saw hi h2 (by simpa using hg)
      · exact h
end
end Go.Proofs.YtnggajconglfcaaDoor
/- A list of keys in levels with its operations, in memory. -/
namespace Go.Proofs.YtnggajconglfcaaDoor
open Go.RowKit
abbrev TL : TypeId := 94
abbrev TN : TypeId := 90
abbrev TO : TypeId := 117
abbrev TP : TypeId := 114
/-- Which blocks. -/
structure SG where
  nb : List Nat
  ob : List Nat
  m : Nat
  a : Option Addr
  c : Nat
def SG.n (g : SG) (j : Nat) : Nat := g.nb.getD j 0
def SG.o (g : SG) (j : Nat) : Nat := g.ob.getD j 0
/-- A link. -/
def lnk (g : SG) : Option Nat → Value
  | none => .pointer none
  | some j => at_ (g.n j)
/-- A place. -/
def plc (p : Nat) (g : SG) : Nat → Addr
  | 0 => ⟨p, 1, none⟩
  | j + 1 => ⟨g.n j, 0, none⟩
def nodeArr (k : ByteArray) (v : Nat → Value) : Array Value := #[.string k, v 0, v 1, v 2, v 3, v 4, v 5, v 6, v 7]
def listArr (room : Nat) (v : Nat → Value) (m : Nat) (a : Option Addr) (n c : Nat) : Array Value := #[.int .i64 (room : Int), .string ⟨#[]⟩, v 0, v 1, v 2, v 3, v 4, v 5, v 6, v 7, .map (some m), .slice a n c]
structure OC where
  own : Value
  h : Nat
  lv : Nat
  pos : Addr
  seen : Value
  ah : Nat → Value
  next : Value
def OC.arr (c : OC) : Array Value := #[c.own, .int .i64 (c.h : Int), .int .i64 (c.lv : Int), .pointer (some c.pos), c.seen, c.ah 0, c.ah 1, c.ah 2, c.ah 3, c.ah 4, c.ah 5, c.ah 6, c.ah 7, c.next]
def doneArr : Array Value := #[.pointer none, .int .i64 0, .int .i64 0, .pointer none, .pointer none, .pointer none, .pointer none, .pointer none, .pointer none, .pointer none, .pointer none, .pointer none, .pointer none, .nilFunc]
/-- An operation's next step. -/
def nextV (q : Nat) : Nat → Value
  | 0 => .func (.func 73) #[at_ q] #[]
  | 1 => .func (.func 82) #[at_ q] #[]
  | 2 => .func (.func 91) #[at_ q] #[]
  | _ => .nilFunc
def OpIs (w : World) (p : Nat) (g : SG) (i : Nat) (o : PO) : Prop :=
  if o.ph = 3 then Box w (g.o i) TO doneArr else ∃ ah : Nat → Value, (∀ l, o.level < l → l < 8 → ah l = .pointer (some (plc p g (o.ahead l)))) ∧ Box w (g.o i) TO (OC.arr ⟨at_ (g.n i), o.height, o.level, plc p g o.pos, lnk g o.seen, ah, nextV (g.o i) o.ph⟩)
def NodeIs (w : World) (g : SG) (i : Nat) (k : ByteArray) (lev : Nat → List Nat) : Prop :=
  ∃ v : Nat → Value, (∀ l, l < 8 → i ∈ lev l → v l = lnk g (nxt (lev l) (i + 1))) ∧ Box w (g.n i) TN (nodeArr k v)
def PS.keys (S : PS) : List ByteArray := S.ops.map PO.key
structure SkAt (w : World) (p : Nat) (S : PS) (g : SG) : Prop where
  inv : S.Inv
  head : Box w p TL (listArr S.room (fun l => lnk g (nxt (S.lev l) 0)) g.m g.a S.ops.length g.c)
  nlen : g.nb.length = S.ops.length
  olen : g.ob.length = S.ops.length
  ond : g.ob.Nodup
  node : ∀ i, i < S.ops.length → NodeIs w g i (S.key i) S.lev
  op : ∀ i, i < S.ops.length → OpIs w p g i (S.op i)
  row : w.ownsRow 0 TP 1 (.slice g.a S.ops.length g.c) S.ops.length (g.ob.map at_)
  map : ∃ D : DataW Unit, w.ownsMap Tryd.prog 9 unitElem g.m S.ops.length D ∧ ∀ s : ByteArray, Maps.has D (.string s.data.toList) = true ↔ s ∈ S.keys
def Foot (p : Nat) (g : SG) (k : Nat) : Prop := k = p ∨ k ∈ g.nb ∨ k ∈ g.ob ∨ k = g.m ∨ blkOf g.a = some k
theorem SG.n_mem {g : SG} {i : Nat} (h : i < g.nb.length) : g.n i ∈ g.nb := by simp [SG.n, List.getD, h]
theorem SG.o_mem {g : SG} {i : Nat} (h : i < g.ob.length) : g.o i ∈ g.ob := by simp [SG.o, List.getD, h]
theorem NodeIs.kept {w w' : World} {g : SG} {i : Nat} {k : ByteArray} {lev : Nat → List Nat} (h : NodeIs w g i k lev) (hk : w'.heap[g.n i]? = w.heap[g.n i]?) : NodeIs w' g i k lev := by
  obtain ⟨v, h1, h2⟩ := h
  exact ⟨v, h1, h2.kept hk⟩
theorem OpIs.kept {w w' : World} {p : Nat} {g : SG} {i : Nat} {o : PO} (h : OpIs w p g i o) (hk : w'.heap[g.o i]? = w.heap[g.o i]?) : OpIs w' p g i o := by
  unfold OpIs at h ⊢
  by_cases e : o.ph = 3
  · rw [if_pos e] at h ⊢
    exact h.kept hk
  · rw [if_neg e] at h ⊢
    obtain ⟨ah, h1, h2⟩ := h
    exact ⟨ah, h1, h2.kept hk⟩
theorem map_kept {w w' : World} {m n : Nat} {D : DataW Unit} (h : w.ownsMap Tryd.prog 9 unitElem m n D) (hk : w'.heap[m]? = w.heap[m]?) : w'.ownsMap Tryd.prog 9 unitElem m n D := by
  obtain ⟨es, clock, hb, F, hs, hD⟩ := h
  exact ⟨es, clock, hk.trans hb, F, hs, hD⟩
theorem SkAt.keep {w w' : World} {p : Nat} {S : PS} {g : SG} (h : SkAt w p S g) (hk : ∀ k, Foot p g k → w'.heap[k]? = w.heap[k]?) : SkAt w' p S g where
  inv := h.inv
  head := h.head.kept (hk _ (.inl rfl))
  nlen := h.nlen
  olen := h.olen
  ond := h.ond
  node := fun i hi => (h.node i hi).kept (hk _ (.inr (.inl (SG.n_mem (by rw [h.nlen]; exact hi)))))
  op := fun i hi => (h.op i hi).kept (hk _ (.inr (.inr (.inl (SG.o_mem (by rw [h.olen]; exact hi))))))
  row := row_same h.row fun b e => hk _ (.inr (.inr (.inr (.inr (by rw [← own_blk g.a S.ops.length g.c]; exact e)))))
  map := by
    obtain ⟨D, h1, h2⟩ := h.map
    exact ⟨D, map_kept h1 (hk _ (.inr (.inr (.inr (.inl rfl))))), h2⟩
theorem SkAt.nodeBox {w : World} {p : Nat} {S : PS} {g : SG} (h : SkAt w p S g) {i : Nat} (hi : i < S.ops.length) : ∃ arr, Box w (g.n i) TN arr := by
  obtain ⟨v, _, h2⟩ := h.node i hi
  exact ⟨_, h2⟩
theorem SkAt.opBox {w : World} {p : Nat} {S : PS} {g : SG} (h : SkAt w p S g) {i : Nat} (hi : i < S.ops.length) : ∃ arr, Box w (g.o i) TO arr := by
  have := h.op i hi
  unfold OpIs at this
  split at this
  · exact ⟨_, this⟩
  · obtain ⟨ah, _, h2⟩ := this
    exact ⟨_, h2⟩
theorem tag_map {w : World} {m n : Nat} {D : DataW Unit} (h : w.ownsMap Tryd.prog 9 unitElem m n D) : tag w m = some 1000 := by
  obtain ⟨es, clock, hb, _⟩ := h
  simp [tag, hb, tagOf]
/-- The tags of the blocks of a list. -/
def skTag (t : Nat) : Prop := t = TL ∨ t = TN ∨ t = TO ∨ t = 1000 ∨ t = TP
theorem mem_getD {l : List Nat} {k : Nat} (h : k ∈ l) : ∃ i, i < l.length ∧ l.getD i 0 = k := by
  obtain ⟨i, hi, e⟩ := List.getElem_of_mem h
  exact ⟨i, hi, by simp [List.getD, hi, e]⟩
theorem SkAt.tags {w : World} {p : Nat} {S : PS} {g : SG} (h : SkAt w p S g) {k : Nat} (hk : Foot p g k) : ∃ t, tag w k = some t ∧ skTag t := by
  rcases hk with rfl | hk | hk | rfl | hk
  · exact ⟨_, h.head.tag, .inl rfl⟩
  · obtain ⟨i, hi, rfl⟩ := mem_getD hk
    obtain ⟨arr, hb⟩ := h.nodeBox (by rw [← h.nlen]; exact hi : i < S.ops.length)
    exact ⟨_, hb.tag, .inr (.inl rfl)⟩
  · obtain ⟨i, hi, rfl⟩ := mem_getD hk
    obtain ⟨arr, hb⟩ := h.opBox (by rw [← h.olen]; exact hi : i < S.ops.length)
    exact ⟨_, hb.tag, .inr (.inr (.inl rfl))⟩
  · obtain ⟨D, h1, _⟩ := h.map
    exact ⟨_, tag_map h1, .inr (.inr (.inr (.inl rfl)))⟩
  · exact ⟨_, row_tag h.row (by rw [own_blk]; exact hk), .inr (.inr (.inr (.inr rfl)))⟩
theorem SkAt.lt {w : World} {p : Nat} {S : PS} {g : SG} (h : SkAt w p S g) {k : Nat} (hk : Foot p g k) : k < w.heap.size := by
  obtain ⟨t, ht, _⟩ := h.tags hk
  exact tag_lt ht
theorem SkAt.below {w w' : World} {p : Nat} {S : PS} {g : SG} (h : SkAt w p S g) (hb : Below w.heap.size w w') : SkAt w' p S g := h.keep fun k hk => hb.block k (h.lt hk)
theorem SkAt.chg {w w' : World} {p : Nat} {S : PS} {g : SG} {R : Nat → Prop} (h : SkAt w p S g) (hc : Chg R w w') (hR : ∀ k, R k → ¬ Foot p g k) : SkAt w' p S g := h.keep fun k hk => hc.block k (h.lt hk) fun hr => hR k hr hk
theorem SkAt.drew {w : World} {p : Nat} {S : PS} {g : SG} (h : SkAt w p S g) : SkAt w.drew p S g := h.keep fun _ _ => rfl
section
variable {w : World} {p : Nat} {S : PS} {g : SG}
/-- Blocks of nodes are apart. -/
theorem SkAt.inj (h : SkAt w p S g) {i j : Nat} (hi : i < S.ops.length) (hj : j < S.ops.length) (e : g.n i = g.n j) : i = j := by
  obtain ⟨v, _, b1⟩ := h.node i hi
  obtain ⟨v', _, b2⟩ := h.node j hj
  have c1 := b1.cell 0
  have c2 := b2.cell 0
  rw [e, c2] at c1
  simp [nodeArr] at c1
  exact (h.inv.uniq j i hj hi c1).symm
theorem SkAt.oinj (h : SkAt w p S g) {i j : Nat} (hi : i < S.ops.length) (hj : j < S.ops.length) (e : g.o i = g.o j) : i = j := by
  have hi' : i < g.ob.length := by rw [h.olen]; exact hi
  have hj' : j < g.ob.length := by rw [h.olen]; exact hj
  simp [SG.o, List.getD, hi', hj'] at e
  have hp := List.pairwise_iff_getElem.1 h.ond
  rcases Nat.lt_trichotomy i j with h1 | h1 | h1
  · exact absurd e (hp i j hi' hj' h1)
  · exact h1
  · exact absurd e.symm (hp j i hj' hi' h1)
theorem lnk_inj (h : SkAt w p S g) {a b : Option Nat} (ha : ∀ j, a = some j → j < S.ops.length) (hb : ∀ j, b = some j → j < S.ops.length) (e : lnk g a = lnk g b) : a = b := by
  cases a <;> cases b <;> simp [lnk] at e
  · rfl
  · rename_i x y
    rw [h.inj (ha x rfl) (hb y rfl) e]
theorem nodeArr_at {k : ByteArray} {v : Nat → Value} {l : Nat} (hl : l < 8) : (nodeArr k v)[1 + l]? = some (v l) := by
  match l, hl with
  | 0, _ | 1, _ | 2, _ | 3, _ | 4, _ | 5, _ | 6, _ | 7, _ => rfl
theorem listArr_at {room : Nat} {v : Nat → Value} {m : Nat} {a : Option Addr} {n c l : Nat} (hl : l < 8) : (listArr room v m a n c)[2 + l]? = some (v l) := by
  match l, hl with
  | 0, _ | 1, _ | 2, _ | 3, _ | 4, _ | 5, _ | 6, _ | 7, _ => rfl
def updV (f : Nat → Value) (l : Nat) (x : Value) : Nat → Value := fun k => if k = l then x else f k
theorem nodeArr_set {k : ByteArray} {v : Nat → Value} {l : Nat} (hl : l < 8) (x : Value) : (nodeArr k v).setIfInBounds (1 + l) x = nodeArr k (updV v l x) := by
  match l, hl with
  | 0, _ | 1, _ | 2, _ | 3, _ | 4, _ | 5, _ | 6, _ | 7, _ => simp [nodeArr, updV]
theorem listArr_set {room : Nat} {v : Nat → Value} {m : Nat} {a : Option Addr} {n c l : Nat} (hl : l < 8) (x : Value) : (listArr room v m a n c).setIfInBounds (2 + l) x = listArr room (updV v l x) m a n c := by
  match l, hl with
  | 0, _ | 1, _ | 2, _ | 3, _ | 4, _ | 5, _ | 6, _ | 7, _ => simp [listArr, updV]
theorem opArr_at {c : OC} {l : Nat} (hl : l < 8) : c.arr[5 + l]? = some (c.ah l) := by
  match l, hl with
  | 0, _ | 1, _ | 2, _ | 3, _ | 4, _ | 5, _ | 6, _ | 7, _ => rfl
theorem opArr_set {c : OC} {l : Nat} (hl : l < 8) (x : Value) : c.arr.setIfInBounds (5 + l) x = OC.arr { c with ah := updV c.ah l x } := by
  match l, hl with
  | 0, _ | 1, _ | 2, _ | 3, _ | 4, _ | 5, _ | 6, _ | 7, _ => simp [OC.arr, updV]
/-- What a link at a place reads as. -/
theorem SkAt.link (h : SkAt w p S g) {l a : Nat} (hl : l < 8) (ha : InL (S.lev l) a) : w.cell? ⟨(plc p g a).block, (plc p g a).off + 1 + l, none⟩ = some (lnk g (nxt (S.lev l) a)) := by
  rcases ha with rfl | ⟨j, rfl, hj⟩
  · show w.cell? ⟨p, 2 + l, none⟩ = _
    rw [h.head.cell, listArr_at hl]
  · have hj' := h.inv.lt hl hj
    obtain ⟨v, h1, h2⟩ := h.node j hj'
    show w.cell? ⟨g.n j, 0 + 1 + l, none⟩ = _
    rw [h2.cell, Nat.zero_add, nodeArr_at hl, h1 l hl hj]
theorem SkAt.linkSoft (h : SkAt w p S g) {l a : Nat} (hl : l < 8) (ha : InL (S.lev l) a) (o : Nat) : w.frozen? ⟨(plc p g a).block, o, none⟩ = false := by
  rcases ha with rfl | ⟨j, rfl, hj⟩
  · exact h.head.soft _
  · obtain ⟨arr, hb⟩ := h.nodeBox (h.inv.lt hl hj)
    exact hb.soft _
theorem SkAt.keyCell (h : SkAt w p S g) {i : Nat} (hi : i < S.ops.length) : w.cell? ⟨g.n i, 0, none⟩ = some (.string (S.key i)) := by
  obtain ⟨v, _, h2⟩ := h.node i hi
  rw [h2.cell]
  rfl
end
end Go.Proofs.YtnggajconglfcaaDoor
/- Closed facts on operations: strings in order, pointers to nodes held against each other. -/
namespace Go.Proofs.YtnggajconglfcaaDoor
open Go.RowKit
abbrev TQ : TypeId := 87
theorem str_geq (a b : ByteArray) (w : World) : (binOp .geq 9 (.string a) (.string b)).run Tryd.prog w = .ok (.bool (!Op.bytesLess a.toList b.toList)) w := by simp [binOp, Op.stringOp]
theorem infoNode : (Tryd.prog.info? TN).map (fun i => i.size) = some 9 := by kernel_rfl
theorem node_eq_in (w : World) (a b : Addr) (r : Bool) (h : (sameAddr a b).run Tryd.prog w = .ok r w) (d : Nat) : (Op.equalIn (d + 1) TQ (.pointer (some a)) (.pointer (some b))).run Tryd.prog w = .ok r w := by
  cases hj : Tryd.prog.info? TN with
  | none => have := infoNode; rw [hj] at this; cases this
  | some j =>
    have hsz : j.size ≠ 0 := by
      have := infoNode
      rw [hj] at this
      simp at this
      omega
    simp [Op.equalIn, run_underlying Tryd.underlying87, sizeOf, typeInfo, hj, hsz, h]
theorem node_neq (w : World) (a b : Addr) (r : Bool) (h : (sameAddr a b).run Tryd.prog w = .ok r w) : (binOp .neq TQ (.pointer (some a)) (.pointer (some b))).run Tryd.prog w = .ok (.bool (!r)) w := by
  simp only [binOp]
  simp [Op.equal, Op.maxDepth, node_eq_in w a b r h 9999]
theorem node_eql (w : World) (a b : Addr) (r : Bool) (h : (sameAddr a b).run Tryd.prog w = .ok r w) : (binOp .eql TQ (.pointer (some a)) (.pointer (some b))).run Tryd.prog w = .ok (.bool r) w := by
  simp only [binOp]
  simp [Op.equal, Op.maxDepth, node_eq_in w a b r h 9999]
theorem node_neq_nil (w : World) (a : Addr) : (binOp .neq TQ (.pointer none) (.pointer (some a))).run Tryd.prog w = .ok (.bool true) w := by
  have h : ∀ d : Nat, (Op.equalIn (d + 1) TQ (.pointer none) (.pointer (some a))).run Tryd.prog w = .ok false w := fun d => by
    simp [Op.equalIn, run_underlying Tryd.underlying87]
  simp only [binOp]
  simp [Op.equal, Op.maxDepth, h 9999]
theorem node_neq_nil2 (w : World) (a : Addr) : (binOp .neq TQ (.pointer (some a)) (.pointer none)).run Tryd.prog w = .ok (.bool true) w := by
  have h : ∀ d : Nat, (Op.equalIn (d + 1) TQ (.pointer (some a)) (.pointer none)).run Tryd.prog w = .ok false w := fun d => by
    simp [Op.equalIn, run_underlying Tryd.underlying87]
  simp only [binOp]
  simp [Op.equal, Op.maxDepth, h 9999]
theorem node_neq_nils (w : World) : (binOp .neq TQ (.pointer none) (.pointer none)).run Tryd.prog w = .ok (.bool false) w := by
  have h : ∀ d : Nat, (Op.equalIn (d + 1) TQ (.pointer none) (.pointer none)).run Tryd.prog w = .ok true w := fun d => by
    simp [Op.equalIn, run_underlying Tryd.underlying87]
  simp only [binOp]
  simp [Op.equal, Op.maxDepth, h 9999]
/-- Two links held against each other. -/
theorem lnk_neq {w : World} {p : Nat} {S : PS} {g : SG} (h : SkAt w p S g) {a b : Option Nat} (ha : ∀ j, a = some j → j < S.ops.length) (hb : ∀ j, b = some j → j < S.ops.length) : (binOp .neq TQ (lnk g a) (lnk g b)).run Tryd.prog w = .ok (.bool (!decide (a = b))) w := by
  cases a with
  | none =>
    cases b with
    | none => exact node_neq_nils w
    | some y => exact node_neq_nil w _
  | some x =>
    cases b with
    | none => exact node_neq_nil2 w _
    | some y =>
      by_cases e : x = y
      · subst e
        simpa [lnk] using node_neq w _ _ true (run_sameAddr_same (P := Tryd.prog) (w := w) ⟨g.n x, 0, none⟩)
      · obtain ⟨a1, b1⟩ := h.nodeBox (ha x rfl)
        obtain ⟨a2, b2⟩ := h.nodeBox (hb y rfl)
        have hne : (⟨g.n x, 0, none⟩ : Addr) ≠ ⟨g.n y, 0, none⟩ := fun e' => e (h.inj (ha x rfl) (hb y rfl) (congrArg Addr.block e'))
        have := node_neq w _ _ false (run_sameAddr_other (P := Tryd.prog) (w := w) hne b1 b2)
        simpa [lnk, e] using this
end Go.Proofs.YtnggajconglfcaaDoor
