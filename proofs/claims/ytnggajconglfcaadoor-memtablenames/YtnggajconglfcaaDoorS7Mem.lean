/- A list of keys in levels with its operations, in memory. -/
import Derived.Test.YtnggajconglfcaaDoorS7State
import Derived.Test.YtnggajconglfcaaDoorBoxM
import Derived.Maps.OwnSet
import Derived.Maps.Views
import Derived.Deep.AppendLies
namespace Go.Proofs.YtnggajconglfcaaDoor
open Go.RowKit
abbrev TL : TypeId := 94
abbrev TN : TypeId := 90
abbrev TO : TypeId := 117
abbrev TP : TypeId := 114
/-- Which blocks. -/
structure SG where
  nb : List Nat
  ob : List Nat
  m : Nat
  a : Option Addr
  c : Nat
def SG.n (g : SG) (j : Nat) : Nat := g.nb.getD j 0
def SG.o (g : SG) (j : Nat) : Nat := g.ob.getD j 0
/-- A link. -/
def lnk (g : SG) : Option Nat → Value
  | none => .pointer none
  | some j => at_ (g.n j)
/-- A place. -/
def plc (p : Nat) (g : SG) : Nat → Addr
  | 0 => ⟨p, 1, none⟩
  | j + 1 => ⟨g.n j, 0, none⟩
def nodeArr (k : ByteArray) (v : Nat → Value) : Array Value := #[.string k, v 0, v 1, v 2, v 3, v 4, v 5, v 6, v 7]
def listArr (room : Nat) (v : Nat → Value) (m : Nat) (a : Option Addr) (n c : Nat) : Array Value := #[.int .i64 (room : Int), .string ⟨#[]⟩, v 0, v 1, v 2, v 3, v 4, v 5, v 6, v 7, .map (some m), .slice a n c]
structure OC where
  own : Value
  h : Nat
  lv : Nat
  pos : Addr
  seen : Value
  ah : Nat → Value
  next : Value
def OC.arr (c : OC) : Array Value := #[c.own, .int .i64 (c.h : Int), .int .i64 (c.lv : Int), .pointer (some c.pos), c.seen, c.ah 0, c.ah 1, c.ah 2, c.ah 3, c.ah 4, c.ah 5, c.ah 6, c.ah 7, c.next]
def doneArr : Array Value := #[.pointer none, .int .i64 0, .int .i64 0, .pointer none, .pointer none, .pointer none, .pointer none, .pointer none, .pointer none, .pointer none, .pointer none, .pointer none, .pointer none, .nilFunc]
/-- An operation's next step. -/
def nextV (q : Nat) : Nat → Value
  | 0 => .func (.func 73) #[at_ q] #[]
  | 1 => .func (.func 82) #[at_ q] #[]
  | 2 => .func (.func 91) #[at_ q] #[]
  | _ => .nilFunc
def OpIs (w : World) (p : Nat) (g : SG) (i : Nat) (o : PO) : Prop :=
  if o.ph = 3 then Box w (g.o i) TO doneArr else ∃ ah : Nat → Value, (∀ l, o.level < l → l < 8 → ah l = .pointer (some (plc p g (o.ahead l)))) ∧ Box w (g.o i) TO (OC.arr ⟨at_ (g.n i), o.height, o.level, plc p g o.pos, lnk g o.seen, ah, nextV (g.o i) o.ph⟩)
def NodeIs (w : World) (g : SG) (i : Nat) (k : ByteArray) (lev : Nat → List Nat) : Prop :=
  ∃ v : Nat → Value, (∀ l, l < 8 → i ∈ lev l → v l = lnk g (nxt (lev l) (i + 1))) ∧ Box w (g.n i) TN (nodeArr k v)
def PS.keys (S : PS) : List ByteArray := S.ops.map PO.key
structure SkAt (w : World) (p : Nat) (S : PS) (g : SG) : Prop where
  inv : S.Inv
  head : Box w p TL (listArr S.room (fun l => lnk g (nxt (S.lev l) 0)) g.m g.a S.ops.length g.c)
  nlen : g.nb.length = S.ops.length
  olen : g.ob.length = S.ops.length
  ond : g.ob.Nodup
  node : ∀ i, i < S.ops.length → NodeIs w g i (S.key i) S.lev
  op : ∀ i, i < S.ops.length → OpIs w p g i (S.op i)
  row : w.ownsRow 0 TP 1 (.slice g.a S.ops.length g.c) S.ops.length (g.ob.map at_)
  map : ∃ D : DataW Unit, w.ownsMap Tryd.prog 9 unitElem g.m S.ops.length D ∧ ∀ s : ByteArray, Maps.has D (.string s.data.toList) = true ↔ s ∈ S.keys
def Foot (p : Nat) (g : SG) (k : Nat) : Prop := k = p ∨ k ∈ g.nb ∨ k ∈ g.ob ∨ k = g.m ∨ blkOf g.a = some k
theorem SG.n_mem {g : SG} {i : Nat} (h : i < g.nb.length) : g.n i ∈ g.nb := by simp [SG.n, List.getD, h]
theorem SG.o_mem {g : SG} {i : Nat} (h : i < g.ob.length) : g.o i ∈ g.ob := by simp [SG.o, List.getD, h]
theorem NodeIs.kept {w w' : World} {g : SG} {i : Nat} {k : ByteArray} {lev : Nat → List Nat} (h : NodeIs w g i k lev) (hk : w'.heap[g.n i]? = w.heap[g.n i]?) : NodeIs w' g i k lev := by
  obtain ⟨v, h1, h2⟩ := h
  exact ⟨v, h1, h2.kept hk⟩
theorem OpIs.kept {w w' : World} {p : Nat} {g : SG} {i : Nat} {o : PO} (h : OpIs w p g i o) (hk : w'.heap[g.o i]? = w.heap[g.o i]?) : OpIs w' p g i o := by
  unfold OpIs at h ⊢
  by_cases e : o.ph = 3
  · rw [if_pos e] at h ⊢
    exact h.kept hk
  · rw [if_neg e] at h ⊢
    obtain ⟨ah, h1, h2⟩ := h
    exact ⟨ah, h1, h2.kept hk⟩
theorem map_kept {w w' : World} {m n : Nat} {D : DataW Unit} (h : w.ownsMap Tryd.prog 9 unitElem m n D) (hk : w'.heap[m]? = w.heap[m]?) : w'.ownsMap Tryd.prog 9 unitElem m n D := by
  obtain ⟨es, clock, hb, F, hs, hD⟩ := h
  exact ⟨es, clock, hk.trans hb, F, hs, hD⟩
theorem SkAt.keep {w w' : World} {p : Nat} {S : PS} {g : SG} (h : SkAt w p S g) (hk : ∀ k, Foot p g k → w'.heap[k]? = w.heap[k]?) : SkAt w' p S g where
  inv := h.inv
  head := h.head.kept (hk _ (.inl rfl))
  nlen := h.nlen
  olen := h.olen
  ond := h.ond
  node := fun i hi => (h.node i hi).kept (hk _ (.inr (.inl (SG.n_mem (by rw [h.nlen]; exact hi)))))
  op := fun i hi => (h.op i hi).kept (hk _ (.inr (.inr (.inl (SG.o_mem (by rw [h.olen]; exact hi))))))
  row := row_same h.row fun b e => hk _ (.inr (.inr (.inr (.inr (by rw [← own_blk g.a S.ops.length g.c]; exact e)))))
  map := by
    obtain ⟨D, h1, h2⟩ := h.map
    exact ⟨D, map_kept h1 (hk _ (.inr (.inr (.inr (.inl rfl))))), h2⟩
theorem SkAt.nodeBox {w : World} {p : Nat} {S : PS} {g : SG} (h : SkAt w p S g) {i : Nat} (hi : i < S.ops.length) : ∃ arr, Box w (g.n i) TN arr := by
  obtain ⟨v, _, h2⟩ := h.node i hi
  exact ⟨_, h2⟩
theorem SkAt.opBox {w : World} {p : Nat} {S : PS} {g : SG} (h : SkAt w p S g) {i : Nat} (hi : i < S.ops.length) : ∃ arr, Box w (g.o i) TO arr := by
  have := h.op i hi
  unfold OpIs at this
  split at this
  · exact ⟨_, this⟩
  · obtain ⟨ah, _, h2⟩ := this
    exact ⟨_, h2⟩
theorem tag_map {w : World} {m n : Nat} {D : DataW Unit} (h : w.ownsMap Tryd.prog 9 unitElem m n D) : tag w m = some 1000 := by
  obtain ⟨es, clock, hb, _⟩ := h
  simp [tag, hb, tagOf]
/-- The tags of the blocks of a list. -/
def skTag (t : Nat) : Prop := t = TL ∨ t = TN ∨ t = TO ∨ t = 1000 ∨ t = TP
theorem mem_getD {l : List Nat} {k : Nat} (h : k ∈ l) : ∃ i, i < l.length ∧ l.getD i 0 = k := by
  obtain ⟨i, hi, e⟩ := List.getElem_of_mem h
  exact ⟨i, hi, by simp [List.getD, hi, e]⟩
theorem SkAt.tags {w : World} {p : Nat} {S : PS} {g : SG} (h : SkAt w p S g) {k : Nat} (hk : Foot p g k) : ∃ t, tag w k = some t ∧ skTag t := by
  rcases hk with rfl | hk | hk | rfl | hk
  · exact ⟨_, h.head.tag, .inl rfl⟩
  · obtain ⟨i, hi, rfl⟩ := mem_getD hk
    obtain ⟨arr, hb⟩ := h.nodeBox (by rw [← h.nlen]; exact hi : i < S.ops.length)
    exact ⟨_, hb.tag, .inr (.inl rfl)⟩
  · obtain ⟨i, hi, rfl⟩ := mem_getD hk
    obtain ⟨arr, hb⟩ := h.opBox (by rw [← h.olen]; exact hi : i < S.ops.length)
    exact ⟨_, hb.tag, .inr (.inr (.inl rfl))⟩
  · obtain ⟨D, h1, _⟩ := h.map
    exact ⟨_, tag_map h1, .inr (.inr (.inr (.inl rfl)))⟩
  · exact ⟨_, row_tag h.row (by rw [own_blk]; exact hk), .inr (.inr (.inr (.inr rfl)))⟩
theorem SkAt.lt {w : World} {p : Nat} {S : PS} {g : SG} (h : SkAt w p S g) {k : Nat} (hk : Foot p g k) : k < w.heap.size := by
  obtain ⟨t, ht, _⟩ := h.tags hk
  exact tag_lt ht
theorem SkAt.below {w w' : World} {p : Nat} {S : PS} {g : SG} (h : SkAt w p S g) (hb : Below w.heap.size w w') : SkAt w' p S g := h.keep fun k hk => hb.block k (h.lt hk)
theorem SkAt.chg {w w' : World} {p : Nat} {S : PS} {g : SG} {R : Nat → Prop} (h : SkAt w p S g) (hc : Chg R w w') (hR : ∀ k, R k → ¬ Foot p g k) : SkAt w' p S g := h.keep fun k hk => hc.block k (h.lt hk) fun hr => hR k hr hk
theorem SkAt.drew {w : World} {p : Nat} {S : PS} {g : SG} (h : SkAt w p S g) : SkAt w.drew p S g := h.keep fun _ _ => rfl
section
variable {w : World} {p : Nat} {S : PS} {g : SG}
/-- Blocks of nodes are apart. -/
theorem SkAt.inj (h : SkAt w p S g) {i j : Nat} (hi : i < S.ops.length) (hj : j < S.ops.length) (e : g.n i = g.n j) : i = j := by
  obtain ⟨v, _, b1⟩ := h.node i hi
  obtain ⟨v', _, b2⟩ := h.node j hj
  have c1 := b1.cell 0
  have c2 := b2.cell 0
  rw [e, c2] at c1
  simp [nodeArr] at c1
  exact (h.inv.uniq j i hj hi c1).symm
theorem SkAt.oinj (h : SkAt w p S g) {i j : Nat} (hi : i < S.ops.length) (hj : j < S.ops.length) (e : g.o i = g.o j) : i = j := by
  have hi' : i < g.ob.length := by rw [h.olen]; exact hi
  have hj' : j < g.ob.length := by rw [h.olen]; exact hj
  simp [SG.o, List.getD, hi', hj'] at e
  have hp := List.pairwise_iff_getElem.1 h.ond
  rcases Nat.lt_trichotomy i j with h1 | h1 | h1
  · exact absurd e (hp i j hi' hj' h1)
  · exact h1
  · exact absurd e.symm (hp j i hj' hi' h1)
theorem lnk_inj (h : SkAt w p S g) {a b : Option Nat} (ha : ∀ j, a = some j → j < S.ops.length) (hb : ∀ j, b = some j → j < S.ops.length) (e : lnk g a = lnk g b) : a = b := by
  cases a <;> cases b <;> simp [lnk] at e
  · rfl
  · rename_i x y
    rw [h.inj (ha x rfl) (hb y rfl) e]
theorem nodeArr_at {k : ByteArray} {v : Nat → Value} {l : Nat} (hl : l < 8) : (nodeArr k v)[1 + l]? = some (v l) := by
  match l, hl with
  | 0, _ | 1, _ | 2, _ | 3, _ | 4, _ | 5, _ | 6, _ | 7, _ => rfl
theorem listArr_at {room : Nat} {v : Nat → Value} {m : Nat} {a : Option Addr} {n c l : Nat} (hl : l < 8) : (listArr room v m a n c)[2 + l]? = some (v l) := by
  match l, hl with
  | 0, _ | 1, _ | 2, _ | 3, _ | 4, _ | 5, _ | 6, _ | 7, _ => rfl
def updV (f : Nat → Value) (l : Nat) (x : Value) : Nat → Value := fun k => if k = l then x else f k
theorem nodeArr_set {k : ByteArray} {v : Nat → Value} {l : Nat} (hl : l < 8) (x : Value) : (nodeArr k v).setIfInBounds (1 + l) x = nodeArr k (updV v l x) := by
  match l, hl with
  | 0, _ | 1, _ | 2, _ | 3, _ | 4, _ | 5, _ | 6, _ | 7, _ => simp [nodeArr, updV]
theorem listArr_set {room : Nat} {v : Nat → Value} {m : Nat} {a : Option Addr} {n c l : Nat} (hl : l < 8) (x : Value) : (listArr room v m a n c).setIfInBounds (2 + l) x = listArr room (updV v l x) m a n c := by
  match l, hl with
  | 0, _ | 1, _ | 2, _ | 3, _ | 4, _ | 5, _ | 6, _ | 7, _ => simp [listArr, updV]
theorem opArr_at {c : OC} {l : Nat} (hl : l < 8) : c.arr[5 + l]? = some (c.ah l) := by
  match l, hl with
  | 0, _ | 1, _ | 2, _ | 3, _ | 4, _ | 5, _ | 6, _ | 7, _ => rfl
theorem opArr_set {c : OC} {l : Nat} (hl : l < 8) (x : Value) : c.arr.setIfInBounds (5 + l) x = OC.arr { c with ah := updV c.ah l x } := by
  match l, hl with
  | 0, _ | 1, _ | 2, _ | 3, _ | 4, _ | 5, _ | 6, _ | 7, _ => simp [OC.arr, updV]
/-- What a link at a place reads as. -/
theorem SkAt.link (h : SkAt w p S g) {l a : Nat} (hl : l < 8) (ha : InL (S.lev l) a) : w.cell? ⟨(plc p g a).block, (plc p g a).off + 1 + l, none⟩ = some (lnk g (nxt (S.lev l) a)) := by
  rcases ha with rfl | ⟨j, rfl, hj⟩
  · show w.cell? ⟨p, 2 + l, none⟩ = _
    rw [h.head.cell, listArr_at hl]
  · have hj' := h.inv.lt hl hj
    obtain ⟨v, h1, h2⟩ := h.node j hj'
    show w.cell? ⟨g.n j, 0 + 1 + l, none⟩ = _
    rw [h2.cell, Nat.zero_add, nodeArr_at hl, h1 l hl hj]
theorem SkAt.linkSoft (h : SkAt w p S g) {l a : Nat} (hl : l < 8) (ha : InL (S.lev l) a) (o : Nat) : w.frozen? ⟨(plc p g a).block, o, none⟩ = false := by
  rcases ha with rfl | ⟨j, rfl, hj⟩
  · exact h.head.soft _
  · obtain ⟨arr, hb⟩ := h.nodeBox (h.inv.lt hl hj)
    exact hb.soft _
theorem SkAt.keyCell (h : SkAt w p S g) {i : Nat} (hi : i < S.ops.length) : w.cell? ⟨g.n i, 0, none⟩ = some (.string (S.key i)) := by
  obtain ⟨v, _, h2⟩ := h.node i hi
  rw [h2.cell]
  rfl
end
end Go.Proofs.YtnggajconglfcaaDoor
