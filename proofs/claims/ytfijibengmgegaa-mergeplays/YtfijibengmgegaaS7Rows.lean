/- Rows of texts and of ints that a call owns; one more is put behind. -/
import Derived.Test.YtfijibengmgegaaBoxM
import Derived.Deep.AppendLies
import Derived.Laws.OwnMore
namespace Go.Proofs.Ytfijibengmgegaa
open Go.RowKit
theorem OwnN.nil (w : World) (B : Nat) : OwnN w B none 0 0 [] := ⟨rfl, World.ownsRow_nil _ _ _ 1, by simp⟩
theorem OwnN.tag {w : World} {B : Nat} {a : Option Addr} {n c : Nat} {l : List Int} (h : OwnN w B a n c l) {k : Nat} (hk : blkOf a = some k) : tag w k = some 3 := row_tag h.row (by rw [own_blk]; exact hk)
theorem OwnN.ge {w : World} {B : Nat} {a : Option Addr} {n c : Nat} {l : List Int} (h : OwnN w B a n c l) {k : Nat} (hk : blkOf a = some k) : B ≤ k := (h.row.lt k (by rw [own_blk]; exact hk)).1
theorem OwnN.kept {w w' : World} {B : Nat} {a : Option Addr} {n c : Nat} {l : List Int} (h : OwnN w B a n c l) (hk : ∀ k, blkOf a = some k → w'.heap[k]? = w.heap[k]?) : OwnN w' B a n c l := ⟨h.size, row_same h.row (fun b e => hk b (by rw [← own_blk a n c]; exact e)), h.wf⟩
theorem OwnN.chg {R : Nat → Prop} {w w' : World} {B : Nat} {a : Option Addr} {n c : Nat} {l : List Int} (h : OwnN w B a n c l) (hc : Chg R w w') (hR : ∀ k, blkOf a = some k → ¬ R k) : OwnN w' B a n c l := h.kept fun k hk => hc.block k (tag_lt (h.tag hk)) (hR k hk)
theorem OwnN.alloc {w : World} {B : Nat} {a : Option Addr} {n c : Nat} {l : List Int} (h : OwnN w B a n c l) (o : Obj) : OwnN (w.alloc o) B a n c l := ⟨h.size, h.row.alloc o, h.wf⟩
theorem wpList_pushN (W : World) {ops : Array Oper} {rest : List Oper} {o : Oper} {a : Act} {Q : Exit → Act → World → Prop} (hgd : o.guard = none) (s x : Operand)
    (ho : o.op = .call { callee := .builtin .append, args := #[s, x], argTypes := #[70, 70] })
    (B : Nat) (a1 : Option Addr) (n1 c1 : Nat) (l : List Int) (hs : a.eval s = .slice a1 n1 c1) (hown : OwnN W B a1 n1 c1 l) (v : Int) (hv : in64 v)
    (hx : a.eval x = .slice (some ⟨W.heap.size, 0, none⟩) 1 1) (hn : n1 ≤ 1000000) (hB : B ≤ W.heap.size)
    (h : ∀ g c' w', OwnN w' B (some ⟨g, 0, none⟩) (n1 + 1) c' (l ++ [v]) → (W.alloc (.cells #[.int .i64 v] 3)).grownBy w' (blkOf a1) → wpList Try.prog ops Q rest (a.put o.dst (.slice (some ⟨g, 0, none⟩) (n1 + 1) c')) w') :
    wpList Try.prog ops Q (o :: rest) a (W.alloc (.cells #[.int .i64 v] 3)) := by
  obtain ⟨i, hi, hz0, hz1, hz2⟩ := info_parts infoI64
  refine wpList_append_lies _ hgd s x 70 ho B 3 i _ 1 8 Try.underlying70 hi hz0 hz1 hz2 rfl (by decide) _ n1 _ hs (hown.alloc _).row ⟨W.heap.size, 0, none⟩ 1 1 [.int .i64 v] hx rfl (World.news_of_block (cs := #[.int .i64 v]) (Box.new W _ _)) (by intro u hu; rw [List.mem_singleton.1 hu]; rfl) (by omega) (by unfold maxLen; omega) (by omega) (by simp; omega) (W.heap.size + 1) (by simp) ?_
  intro g c' w' hr hg hl _
  rw [own_blk] at hg
  refine h g c' w' ⟨by simp; exact hown.size, by simpa [cellsN] using hr, fun n hn => ?_⟩ hg
  rcases List.mem_append.1 hn with hn | hn
  · exact hown.wf n hn
  · rw [List.mem_singleton.1 hn]
    exact hv
def cellsS (l : List ByteArray) : List Value := l.map Value.string
/-- A row of texts of the call's own. -/
structure OwnS (w : World) (B : Nat) (a : Option Addr) (len cap : Nat) (l : List ByteArray) : Prop where
  size : l.length = len
  row : w.ownsRow B 9 1 (.slice a len cap) len (cellsS l)
/-- The slice value reads as texts. -/
structure StAt (w : World) (a : Option Addr) (len cap : Nat) (l : List ByteArray) : Prop where
  size : l.length = len
  le : len ≤ cap
  max : cap ≤ maxLen
  here : 0 < len → ∃ b off, a = some ⟨b, off, none⟩ ∧ ∀ j, j < len → w.cell? ⟨b, off + j, none⟩ = some (.string (l.getD j ⟨#[]⟩))
section
variable {w w' : World} {B : Nat} {a : Option Addr} {n c : Nat} {l : List ByteArray}
theorem OwnS.st (h : OwnS w B a n c l) : StAt w a n c l := by
  obtain ⟨h1, h2, h3, h4⟩ := row_addr h.row
  have hs := h.size
  refine ⟨hs, h1, h2, fun hp => ?_⟩
  obtain ⟨g, rfl⟩ := h4 hp
  refine ⟨g, 0, rfl, fun j hj => ?_⟩
  rw [Nat.zero_add, h.row.cellAt j (by omega)]
  simp [cellsS, List.getD, show j < l.length by omega]
theorem StAt.below (h : StAt w a n c l) (hb : Below w.heap.size w w') : StAt w' a n c l := ⟨h.size, h.le, h.max, fun hp => by
  obtain ⟨b, off, ha, hc⟩ := h.here hp
  refine ⟨b, off, ha, fun j hj => ?_⟩
  rw [hb.cell (World.block_lt_of_cell? w _ (hc j hj))]
  exact hc j hj⟩
theorem OwnS.nil (w : World) (B : Nat) : OwnS w B none 0 0 [] := ⟨rfl, World.ownsRow_nil _ _ _ 1⟩
theorem OwnS.tag (h : OwnS w B a n c l) {k : Nat} (hk : blkOf a = some k) : tag w k = some 9 := row_tag h.row (by rw [own_blk]; exact hk)
theorem OwnS.ge (h : OwnS w B a n c l) {k : Nat} (hk : blkOf a = some k) : B ≤ k := (h.row.lt k (by rw [own_blk]; exact hk)).1
theorem OwnS.kept (h : OwnS w B a n c l) (hk : ∀ k, blkOf a = some k → w'.heap[k]? = w.heap[k]?) : OwnS w' B a n c l := ⟨h.size, row_same h.row (fun b e => hk b (by rw [← own_blk a n c]; exact e))⟩
theorem OwnS.chg {R : Nat → Prop} (h : OwnS w B a n c l) (hc : Chg R w w') (hR : ∀ k, blkOf a = some k → ¬ R k) : OwnS w' B a n c l := h.kept fun k hk => hc.block k (tag_lt (h.tag hk)) (hR k hk)
theorem OwnS.below (h : OwnS w B a n c l) (hb : Below w.heap.size w w') : OwnS w' B a n c l := h.kept fun k hk => hb.block k (tag_lt (h.tag hk))
theorem OwnS.alloc (h : OwnS w B a n c l) (o : Obj) : OwnS (w.alloc o) B a n c l := ⟨h.size, h.row.alloc o⟩
theorem OwnS.less (h : OwnS w B a n c l) {B' : Nat} (hB : B' ≤ B) : OwnS w B' a n c l := by
  refine ⟨h.size, h.row.1, ?_⟩
  rcases h.row.2 with hn | ⟨g, c, cur, hv, hb, rest⟩
  · exact .inl hn
  · exact .inr ⟨g, c, cur, hv, Nat.le_trans hB hb, rest⟩
end
theorem infoS : (Try.prog.info? 9).map (fun i => (i.zero, i.size, i.bytes)) = some (some (.string ⟨#[]⟩), 1, 16) := by kernel_rfl
def lenOf : Value → Nat
  | .slice _ n _ => n
  | _ => 0
end Go.Proofs.Ytfijibengmgegaa
