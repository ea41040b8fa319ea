/- Lists of operations that a call owns, and one more appended. -/
import Derived.Test.YtohhdbmkbfehfaaOps
import Derived.Test.YtohhdbmkbfehfaaOwn
namespace Go.Proofs.Ytohhdbmkbfehfaa
open Go.RowKit

def cellsOp (o : Opn) : List Value := [.int .i64 o.kind, .string o.key, .string o.val]
def cellsO : List Opn → List Value
  | [] => []
  | o :: r => cellsOp o ++ cellsO r
theorem cellsO_length : ∀ l : List Opn, (cellsO l).length = l.length * 3
  | [] => rfl
  | o :: r => by
    have := cellsO_length r
    simp [cellsO, cellsOp, this]
    omega
theorem cellsO_append : ∀ l m : List Opn, cellsO (l ++ m) = cellsO l ++ cellsO m
  | [], _ => rfl
  | o :: r, m => by rw [List.cons_append, cellsO, cellsO, cellsO_append r m, List.append_assoc]
theorem cellsO_at : ∀ (l : List Opn) (j : Nat), j < l.length → (cellsO l)[j * 3]? = some (.int .i64 (l.getD j opn0).kind) ∧ (cellsO l)[j * 3 + 1]? = some (.string (l.getD j opn0).key) ∧ (cellsO l)[j * 3 + 2]? = some (.string (l.getD j opn0).val)
  | [], j, h => by simp at h
  | o :: r, 0, _ => by simp [cellsO, cellsOp, List.getD]
  | o :: r, j + 1, h => by
    have := cellsO_at r j (by simpa using h)
    have e : (cellsO (o :: r)) = cellsOp o ++ cellsO r := rfl
    have hl : (cellsOp o).length = 3 := rfl
    rw [e, List.getElem?_append_right (by rw [hl]; omega), List.getElem?_append_right (by rw [hl]; omega), List.getElem?_append_right (by rw [hl]; omega), hl, show (j + 1) * 3 - 3 = j * 3 by omega, show (j + 1) * 3 + 1 - 3 = j * 3 + 1 by omega, show (j + 1) * 3 + 2 - 3 = j * 3 + 2 by omega]
    simpa [List.getD] using this

/-- The slice value reads as the operations l and lies in a block of the call's own, from number B on. -/
structure OwnO (w : World) (B : Nat) (a : Option Addr) (len cap : Nat) (l : List Opn) : Prop where
  size : l.length = len
  row : w.ownsRow B 39 3 (.slice a len cap) len (cellsO l)

theorem OwnO.ops {w : World} {B : Nat} {a : Option Addr} {len cap : Nat} {l : List Opn} (h : OwnO w B a len cap l) : OpsAt w a len cap l := by
  have hs := h.size
  rcases h.row.2 with ⟨hv, hn⟩ | ⟨g, c, cur, hv, hb, hg, hn, hc, hz, ht⟩
  · simp only [Value.slice.injEq] at hv
    obtain ⟨rfl, rfl, rfl⟩ := hv
    exact ⟨hs, Nat.le_refl _, Nat.zero_le _, fun _ => rfl, fun h0 => absurd h0 (Nat.lt_irrefl _)⟩
  · simp only [Value.slice.injEq, true_and] at hv
    obtain ⟨rfl, rfl⟩ := hv
    have hcell : ∀ i u, (cellsO l)[i]? = some u → w.cell? ⟨g, i, none⟩ = some u := by
      intro i u hu
      have hi : i < (cellsO l).length := (List.getElem?_eq_some_iff.1 hu).1
      rw [h.row.cellAt i (by rw [cellsO_length, hs] at hi; omega), hu]
    refine ⟨hs, hn, hc, fun h0 => by simp at h0, fun _ => ⟨g, 0, rfl, fun j hj => ?_⟩⟩
    obtain ⟨h0, h1, h2⟩ := cellsO_at l j (by omega)
    rw [Nat.zero_add]
    exact ⟨hcell _ _ h0, hcell _ _ h1, hcell _ _ h2⟩
theorem OwnO.below {w w' : World} {B : Nat} {a : Option Addr} {len cap : Nat} {l : List Opn} (h : OwnO w B a len cap l) (hb : Below w.heap.size w w') : OwnO w' B a len cap l := by
  refine ⟨h.size, h.row.1, ?_⟩
  rcases h.row.2 with hn | ⟨g, c, cur, hv, hB, hg, rest⟩
  · exact .inl hn
  · exact .inr ⟨g, c, cur, hv, hB, by rw [hb.block g (Array.getElem?_eq_some_iff.1 hg).1]; exact hg, rest⟩
theorem OwnO.mono {w : World} {B B' : Nat} {a : Option Addr} {len cap : Nat} {l : List Opn} (h : OwnO w B a len cap l) (hB : B' ≤ B) : OwnO w B' a len cap l := by
  refine ⟨h.size, h.row.1, ?_⟩
  rcases h.row.2 with hn | ⟨g, c, cur, hv, hb, rest⟩
  · exact .inl hn
  · exact .inr ⟨g, c, cur, hv, Nat.le_trans hB hb, rest⟩
theorem OwnO.alloc {w : World} {B : Nat} {a : Option Addr} {len cap : Nat} {l : List Opn} (h : OwnO w B a len cap l) (o : Obj) : OwnO (w.alloc o) B a len cap l := ⟨h.size, h.row.alloc o⟩
theorem OwnO.nil (w : World) (B : Nat) : OwnO w B none 0 0 [] := ⟨rfl, World.ownsRow_nil w B _ 3⟩

theorem OwnO.fresh {w : World} {B : Nat} {a : Option Addr} {len cap : Nat} {l : List Opn} (h : OwnO w B a len cap l) : ∀ ad, a = some ad → B ≤ ad.block := fun ad e => (h.row.lt ad.block (by rw [e]; rfl)).1

theorem infoOp : (Try.prog.info? 39).map (fun i => (i.zero, i.size, i.bytes)) = some (some (.agg #[.int .i64 0, .string ByteArray.empty, .string ByteArray.empty]), 3, 40) := by kernel_rfl

theorem ownO_of_row {w : World} {B : Nat} {v : Value} {n : Nat} {l : List Opn} (h : w.ownsRow B 39 3 v n (cellsO l)) : ∃ a cap, v = .slice a n cap ∧ OwnO w B a n cap l := by
  have hn : l.length = n := by have := h.1; rw [cellsO_length] at this; omega
  rcases h.2 with ⟨rfl, rfl⟩ | ⟨g, c, cur, rfl, rest⟩
  · exact ⟨none, 0, rfl, hn, h⟩
  · exact ⟨_, c, rfl, hn, h⟩

/-- Operations appended to a list of the call's own. -/
theorem wpList_appO (w : World) {ops : Array Oper} {rest : List Oper} {o : Oper} {a : Act} {Q : Exit → Act → World → Prop} (hgd : o.guard = none) (s x : Operand)
    (ho : o.op = .call { callee := .builtin .append, args := #[s, x], argTypes := #[24, 24] })
    (B : Nat) (a1 : Option Addr) (n1 c1 : Nat) (l : List Opn) (hs : a.eval s = .slice a1 n1 c1) (hown : OwnO w B a1 n1 c1 l)
    (a2 : Option Addr) (n2 c2 : Nat) (m : List Opn) (hx : a.eval x = .slice a2 n2 c2) (hsrc : OpsAt w a2 n2 c2 m)
    (hl : (n1 + n2) * 40 ≤ 140737488355328) (hB : B ≤ w.heap.size)
    (h : ∀ a' c' w', OwnO w' B a' (n1 + n2) c' (l ++ m) → Below B w w' → wpList Try.prog ops Q rest (a.put o.dst (.slice a' (n1 + n2) c')) w') :
    wpList Try.prog ops Q (o :: rest) a w := by
  obtain ⟨i, hi, hz0, hz1, hz2⟩ := info_parts infoOp
  have hsz := hsrc.size
  have hlt : ∀ k, (Value.slice a1 n1 c1).ownBlock = some k → B ≤ k := fun k hk => (hown.row.lt k hk).1
  cases a2 with
  | none =>
    have hc0 := hsrc.bare rfl
    have hle := hsrc.le
    obtain rfl : n2 = 0 := by omega
    subst hc0
    obtain rfl := List.eq_nil_of_length_eq_zero hsz
    refine wpList_append_own_none hgd s x _ ho B 39 i 3 Try.underlying24 hi _ n1 _ hs hown.row hx ?_
    have := h a1 c1 w (by rw [Nat.add_zero, List.append_nil]; exact hown) (Below.refl _ _)
    exact this
  | some ad =>
    have hcell : ∀ j u, (cellsO m)[j]? = some u → w.cell? (ad.add j) = some u := by
      intro j u hu
      have hj : j < (cellsO m).length := (List.getElem?_eq_some_iff.1 hu).1
      rw [cellsO_length] at hj
      obtain ⟨b, off, he, hc⟩ := hsrc.here (by omega)
      obtain rfl := Option.some.inj he
      obtain ⟨t, r, hr, rfl⟩ : ∃ t r, r < 3 ∧ j = t * 3 + r := ⟨j / 3, j % 3, by omega, by omega⟩
      obtain ⟨h0, h1, h2⟩ := cellsO_at m t (by omega)
      obtain ⟨g0, g1, g2⟩ := hc t (by omega)
      rw [Addr.add_lit, ← Nat.add_assoc]
      rcases (by omega : r = 0 ∨ r = 1 ∨ r = 2) with rfl | rfl | rfl
      · rw [Nat.add_zero] at hu ⊢
        rw [g0, ← h0, hu]
      · rw [g1, ← h1, hu]
      · rw [g2, ← h2, hu]
    have hone : ∀ (l : List Opn), ∀ u ∈ cellsO l, u.oneCell' = true := by
      intro l
      induction l with
      | nil => intro u hu; cases hu
      | cons o r ih =>
        intro u hu
        rcases List.mem_append.1 (show u ∈ cellsOp o ++ cellsO r from hu) with hu | hu
        · simp [cellsOp] at hu
          rcases hu with rfl | rfl | rfl <;> rfl
        · exact ih u hu
    refine wpList_append_own w hgd s x _ ho B 39 i _ 3 40 Try.underlying24 hi hz0 hz1 hz2 rfl (by decide) _ n1 _ hs hown.row ad n2 c2 (cellsO m) hx (by rw [cellsO_length]; omega) hcell (hone m) (by unfold maxLen; omega) (by omega) hB ?_
    intro v' w' hr hg _
    rw [← cellsO_append] at hr
    obtain ⟨a', c', rfl, ho'⟩ := ownO_of_row hr
    exact h a' c' w' ho' ((Below.refl B w).grown hg hB hlt)
/-- An empty literal. -/
theorem OwnO.made (w : World) : OwnO (w.alloc (.cells #[] 39)) w.heap.size (some ⟨w.heap.size, 0, none⟩) 0 0 [] := ⟨rfl, World.ownsRow_made w #[] 0 (Nat.le_refl _) (Nat.zero_le _) rfl⟩
/-- A literal of one operation. -/
theorem OpsAt.one {w : World} {k : Int} {s t : ByteArray} {e : TypeId} : OpsAt (w.alloc (.cells #[.int .i64 k, .string s, .string t] e)) (some ⟨w.heap.size, 0, none⟩) 1 1 [⟨k, s, t⟩] := by
  refine ⟨rfl, Nat.le_refl _, by unfold maxLen; omega, by simp, fun _ => ⟨w.heap.size, 0, rfl, fun j hj => ?_⟩⟩
  obtain rfl : j = 0 := by omega
  refine ⟨?_, ?_, ?_⟩ <;> simp
theorem OpsAt.oneAt {w : World} {g : Nat} {k : Int} {s t : ByteArray} {e : TypeId} (hg : g = w.heap.size) : OpsAt (w.alloc (.cells #[.int .i64 k, .string s, .string t] e)) (some ⟨g, 0, none⟩) 1 1 [⟨k, s, t⟩] := by
  subst hg
  exact OpsAt.one
end Go.Proofs.Ytohhdbmkbfehfaa
