/- Rows of texts that a call owns: one more, or a whole row, is put behind; for rows as great as may be. -/
import Derived.Test.YtbmimlplicdheaaS7Rows
namespace Go.Proofs.Ytbmimlplicdheaa
open Go.RowKit
theorem wpList_pushT (W : World) {ops : Array Oper} {rest : List Oper} {o : Oper} {a : Act} {Q : Exit → Act → World → Prop} (hgd : o.guard = none) (s x : Operand)
    (ho : o.op = .call { callee := .builtin .append, args := #[s, x], argTypes := #[23, 23] })
    (B : Nat) (a1 : Option Addr) (n1 c1 : Nat) (l : List ByteArray) (hs : a.eval s = .slice a1 n1 c1) (hown : OwnS W B a1 n1 c1 l) (v : ByteArray)
    (hx : a.eval x = .slice (some ⟨W.heap.size, 0, none⟩) 1 1) (hn : n1 + 1 ≤ 8796093022208) (hB : B ≤ W.heap.size)
    (h : ∀ g c' w', OwnS w' B (some ⟨g, 0, none⟩) (n1 + 1) c' (l ++ [v]) → (W.alloc (.cells #[.string v] 9)).grownBy w' (blkOf a1) → wpList Try.prog ops Q rest (a.put o.dst (.slice (some ⟨g, 0, none⟩) (n1 + 1) c')) w') :
    wpList Try.prog ops Q (o :: rest) a (W.alloc (.cells #[.string v] 9)) := by
  obtain ⟨i, hi, hz0, hz1, hz2⟩ := info_parts infoS
  refine wpList_append_lies _ hgd s x 23 ho B 9 i _ 1 16 Try.underlying23 hi hz0 hz1 hz2 rfl (by decide) _ n1 _ hs (hown.alloc _).row ⟨W.heap.size, 0, none⟩ 1 1 [.string v] hx rfl (World.news_of_block (cs := #[.string v]) (Box.new W _ _)) (by intro u hu; rw [List.mem_singleton.1 hu]; rfl) (by omega) (by unfold maxLen; omega) (by omega) (by simp; omega) (W.heap.size + 1) (by simp) ?_
  intro g c' w' hr hg hl _
  rw [own_blk] at hg
  exact h g c' w' ⟨by simp; exact hown.size, by simpa [cellsS] using hr⟩ hg
theorem cellsS_get (l : List ByteArray) (j : Nat) (h : j < l.length) : (cellsS l)[j]? = some (.string (l.getD j ⟨#[]⟩)) := by simp [cellsS, List.getD, h]
theorem cellsS_one (l : List ByteArray) : ∀ u ∈ cellsS l, u.oneCell' = true := by
  intro u hu
  obtain ⟨_, _, rfl⟩ := List.mem_map.1 hu
  rfl
/-- A row of texts put behind an empty one. -/
theorem wpList_app0S (w : World) {ops : Array Oper} {rest : List Oper} {o : Oper} {a : Act} {Q : Exit → Act → World → Prop} (hgd : o.guard = none) (s x : Operand)
    (ho : o.op = .call { callee := .builtin .append, args := #[s, x], argTypes := #[23, 23] })
    (hs : a.eval s = .slice (some ⟨w.heap.size, 0, none⟩) 0 0)
    (a2 : Option Addr) (n2 c2 : Nat) (l : List ByteArray) (hx : a.eval x = .slice a2 n2 c2) (hst : StAt w a2 n2 c2 l) (hbare : a2 = none → c2 = 0) (hn : n2 ≤ 8796093022208)
    (h : ∀ a' c' w', OwnS w' w.heap.size a' n2 c' l → Below w.heap.size w w' → wpList Try.prog ops Q rest (a.put o.dst (.slice a' n2 c')) w') :
    wpList Try.prog ops Q (o :: rest) a (w.alloc (.cells #[] 9)) := by
  have hmade : (w.alloc (.cells #[] 9)).ownsRow w.heap.size 9 1 (.slice (some ⟨w.heap.size, 0, none⟩) 0 0) 0 [] := World.ownsRow_made w #[] 0 (Nat.le_refl _) (Nat.zero_le _) (by simp)
  have hA : Below w.heap.size w (w.alloc (.cells #[] 9)) := (Below.refl _ _).alloc (Nat.le_refl _) _
  have hz := hst.size
  have hle := hst.le
  refine wpList_appV _ hgd s x 23 9 ho Try.underlying23 _ 1 16 infoS rfl (by decide) w.heap.size _ 0 0 [] hs hmade a2 n2 c2 (cellsS l) hx (fun e => ?_) (by simp [cellsS]; exact hz) (fun ad e j u hu => ?_) (cellsS_one l) (by unfold maxLen; omega) (by omega) (by simp) (fun a' c' w' hr hb hg => ?_)
  · have := hbare e
    omega
  · have hj : j < l.length := by have := (List.getElem?_eq_some_iff.1 hu).1; simpa [cellsS] using this
    obtain ⟨b, off, he, hc⟩ := hst.here (by omega)
    rw [e] at he
    obtain rfl := Option.some.inj he
    rw [cellsS_get l j hj] at hu
    obtain rfl := Option.some.inj hu
    rw [Addr.add_lit]
    have := hc j (by omega)
    rw [hA.cell (World.block_lt_of_cell? w _ this)]
    exact this
  · rw [Nat.zero_add] at hr ⊢
    exact h a' c' w' ⟨hz, hr⟩ (hA.trans hb)
end Go.Proofs.Ytbmimlplicdheaa
