/- Appends to a call's own rows: ints, instructions, slices of instructions. -/
import Derived.Test.YtehkcgjiimfdjabAwake5
import Derived.Deep.AppendLies
namespace Go.Proofs.Ytehkcgjiimfdjab
open Go.RowKit
theorem slice_of_row {w : World} {B : Nat} {e : TypeId} {size n : Nat} {v : Value} {xs : List Value} (h : w.ownsRow B e size v n xs) : ∃ a c, v = .slice a n c := by
  rcases h.2 with ⟨rfl, rfl⟩ | ⟨g, c, cur, rfl, _⟩
  · exact ⟨none, 0, rfl⟩
  · exact ⟨_, c, rfl⟩
theorem wpList_appV (w : World) {ops : Array Oper} {rest : List Oper} {o : Oper} {a : Act} {Q : Exit → Act → World → Prop} (hgd : o.guard = none) (s x : Operand) (t e : TypeId)
    (ho : o.op = .call { callee := .builtin .append, args := #[s, x], argTypes := #[t, t] }) (ht : Try.prog.underlying t = some (.slice e)) (z : Value) (size bytes : Nat) (hinfo : (Try.prog.info? e).map (fun i => (i.zero, i.size, i.bytes)) = some (some z, size, bytes)) (hzs : z.cells.size = size) (hsz : 0 < size)
    (B : Nat) (a1 : Option Addr) (n1 c1 : Nat) (xs : List Value) (hs : a.eval s = .slice a1 n1 c1) (hown : w.ownsRow B e size (.slice a1 n1 c1) n1 xs)
    (a2 : Option Addr) (n2 c2 : Nat) (news : List Value) (hx : a.eval x = .slice a2 n2 c2) (hbare : a2 = none → n2 = 0 ∧ c2 = 0) (hl : news.length = n2 * size) (hnews : ∀ ad, a2 = some ad → ∀ j u, news[j]? = some u → w.cell? (ad.add j) = some u) (h1 : ∀ u ∈ news, u.oneCell' = true)
    (h63 : n1 + n2 ≤ maxLen) (hbytes : (n1 + n2) * bytes ≤ 140737488355328) (hB : B ≤ w.heap.size)
    (h : ∀ a' c' w', w'.ownsRow B e size (.slice a' (n1 + n2) c') (n1 + n2) (xs ++ news) → Below B w w' → w.grownBy w' (blkOf a1) → wpList Try.prog ops Q rest (a.put o.dst (.slice a' (n1 + n2) c')) w') :
    wpList Try.prog ops Q (o :: rest) a w := by
  obtain ⟨i, hi, hz0, hz1, hz2⟩ := info_parts hinfo
  have fin : ∀ v' w', w'.ownsRow B e size v' (n1 + n2) (xs ++ news) → w.grownBy w' (Value.slice a1 n1 c1).ownBlock → wpList Try.prog ops Q rest (a.put o.dst v') w' := by
    intro v' w' hr hg
    obtain ⟨a', c', rfl⟩ := slice_of_row hr
    exact h a' c' w' hr ((Below.refl B w).grown hg hB (fun k hk => (hown.lt k hk).1)) (by rw [← own_blk a1 n1 c1]; exact hg)
  cases a2 with
  | none =>
    obtain ⟨rfl, rfl⟩ := hbare rfl
    obtain rfl := List.eq_nil_of_length_eq_zero (by rw [hl]; simp : news.length = 0)
    refine wpList_append_own_none hgd s x _ ho B e i size ht hi _ n1 _ hs hown hx ?_
    exact fin _ w (by simpa using hown) (World.grownBy.refl _ _)
  | some ad => exact wpList_append_own w hgd s x _ ho B e i z size bytes ht hi hz0 hz1 hz2 hzs hsz _ n1 _ hs hown ad n2 c2 news hx hl (hnews ad rfl) h1 h63 hbytes hB (fun v' w' hr hg _ => fin v' w' hr hg)
def cellsN (l : List Int) : List Value := l.map (Value.int .i64)
theorem cellsN_one (l : List Int) : ∀ u ∈ cellsN l, u.oneCell' = true := by
  intro u hu
  obtain ⟨_, _, rfl⟩ := List.mem_map.1 hu
  rfl
theorem cellsN_get (l : List Int) (j : Nat) (h : j < l.length) : (cellsN l)[j]? = some (.int .i64 (l.getD j 0)) := by simp [cellsN, List.getD, h]
theorem insL_append : ∀ l m : List Ins, insL (l ++ m) = insL l ++ insL m
  | [], _ => rfl
  | x :: r, m => by simp [insL, insL_append r m]
theorem insL_len : ∀ l : List Ins, (insL l).length = l.length * 4
  | [] => rfl
  | x :: r => by simp [insL, insL_len r]; omega
theorem insL_one : ∀ (l : List Ins), ∀ u ∈ insL l, u.oneCell' = true
  | [], u, h => by cases h
  | x :: r, u, h => by
    simp only [insL, List.mem_cons] at h
    rcases h with rfl | rfl | rfl | rfl | h
    · rfl
    · rfl
    · rfl
    · rfl
    · exact insL_one r u h
def in64I (x : Ins) : Prop := in64 x.op ∧ in64 x.a ∧ in64 x.b ∧ in64 x.c
/-- A row of ints of the call's own. -/
structure OwnN (w : World) (B : Nat) (a : Option Addr) (len cap : Nat) (l : List Int) : Prop where
  size : l.length = len
  row : w.ownsRow B 3 1 (.slice a len cap) len (cellsN l)
  wf : ∀ n ∈ l, in64 n
/-- A row of instructions of the call's own. -/
structure OwnI (w : World) (B : Nat) (a : Option Addr) (len cap : Nat) (l : List Ins) : Prop where
  size : l.length = len
  row : w.ownsRow B 26 4 (.slice a len cap) len (insL l)
  wf : ∀ x ∈ l, in64I x
theorem row_addr {w : World} {B : Nat} {e : TypeId} {size n cap : Nat} {a : Option Addr} {xs : List Value} (h : w.ownsRow B e size (.slice a n cap) n xs) : n ≤ cap ∧ cap ≤ maxLen ∧ (a = none → cap = 0) ∧ (0 < n → ∃ g, a = some ⟨g, 0, none⟩) := by
  rcases h.2 with ⟨hv, hn⟩ | ⟨g, c, cur, hv, _, _, hn, hc, _⟩
  · simp only [Value.slice.injEq] at hv
    obtain ⟨rfl, rfl, rfl⟩ := hv
    exact ⟨Nat.le_refl _, Nat.zero_le _, fun _ => rfl, fun h0 => absurd h0 (Nat.lt_irrefl _)⟩
  · simp only [Value.slice.injEq, true_and] at hv
    obtain ⟨rfl, rfl⟩ := hv
    exact ⟨hn, hc, fun h0 => by simp at h0, fun _ => ⟨g, rfl⟩⟩
theorem OwnN.is {w : World} {B : Nat} {a : Option Addr} {len cap : Nat} {l : List Int} (h : OwnN w B a len cap l) : IsAt w a len cap l := by
  obtain ⟨h1, h2, h3, h4⟩ := row_addr h.row
  have hs := h.size
  refine ⟨hs, h1, h2, h3, fun j hj => h.wf _ (by simp [List.getD, hs, hj]), fun hp => ?_⟩
  obtain ⟨g, rfl⟩ := h4 hp
  refine ⟨g, 0, rfl, fun j hj => ?_⟩
  rw [Nat.zero_add, h.row.cellAt j (by omega), cellsN_get l j (by omega)]
theorem OwnI.is {w : World} {B : Nat} {a : Option Addr} {len cap : Nat} {l : List Ins} (h : OwnI w B a len cap l) : IcAt w a len cap l := by
  obtain ⟨h1, h2, h3, h4⟩ := row_addr h.row
  have hs := h.size
  refine ⟨hs, h1, h2, h3, fun j hj => h.wf _ (by simp [List.getD, hs, hj]), fun hp => ?_⟩
  obtain ⟨g, rfl⟩ := h4 hp
  refine ⟨g, 0, rfl, fun j hj => ?_⟩
  obtain ⟨c0, c1, c2, c3⟩ := insL_at l j (by omega)
  rw [Nat.zero_add, h.row.cellAt _ (by omega), h.row.cellAt _ (by omega), h.row.cellAt _ (by omega), h.row.cellAt _ (by omega)]
  exact ⟨c0, c1, c2, c3⟩
theorem row_below {w w' : World} {B : Nat} {e : TypeId} {size n : Nat} {v : Value} {xs : List Value} (h : w.ownsRow B e size v n xs) (hb : Below w.heap.size w w') : w'.ownsRow B e size v n xs :=
  row_same h fun b e => hb.block b (tag_lt (row_tag h e))
theorem OwnN.below {w w' : World} {B : Nat} {a : Option Addr} {len cap : Nat} {l : List Int} (h : OwnN w B a len cap l) (hb : Below w.heap.size w w') : OwnN w' B a len cap l := ⟨h.size, row_below h.row hb, h.wf⟩
theorem OwnI.below {w w' : World} {B : Nat} {a : Option Addr} {len cap : Nat} {l : List Ins} (h : OwnI w B a len cap l) (hb : Below w.heap.size w w') : OwnI w' B a len cap l := ⟨h.size, row_below h.row hb, h.wf⟩
theorem OwnI.nil (w : World) (B : Nat) : OwnI w B none 0 0 [] := ⟨rfl, World.ownsRow_nil _ _ _ 4, by simp⟩
theorem OwnN.made (w : World) : OwnN (w.alloc (.cells #[] 3)) w.heap.size (some ⟨w.heap.size, 0, none⟩) 0 0 [] := ⟨rfl, World.ownsRow_made w #[] 0 (Nat.le_refl _) (Nat.zero_le _) rfl, by simp⟩
theorem infoI64 : (Try.prog.info? 3).map (fun i => (i.zero, i.size, i.bytes)) = some (some (.int .i64 0), 1, 8) := by kernel_rfl
theorem infoInst : (Try.prog.info? 26).map (fun i => (i.zero, i.size, i.bytes)) = some (some (.agg #[.int .i64 0, .int .i64 0, .int .i64 0, .int .i64 0]), 4, 32) := by kernel_rfl
/-- Ints appended to a row of the call's own. -/
theorem wpList_appN (w : World) {ops : Array Oper} {rest : List Oper} {o : Oper} {a : Act} {Q : Exit → Act → World → Prop} (hgd : o.guard = none) (s x : Operand)
    (ho : o.op = .call { callee := .builtin .append, args := #[s, x], argTypes := #[22, 22] })
    (B : Nat) (a1 : Option Addr) (n1 c1 : Nat) (l : List Int) (hs : a.eval s = .slice a1 n1 c1) (hown : OwnN w B a1 n1 c1 l)
    (a2 : Option Addr) (n2 c2 : Nat) (m : List Int) (hx : a.eval x = .slice a2 n2 c2) (hsrc : IsAt w a2 n2 c2 m)
    (hb : n1 + n2 ≤ 17592186044416) (hB : B ≤ w.heap.size)
    (h : ∀ a' c' w', OwnN w' B a' (n1 + n2) c' (l ++ m) → Below B w w' → w.grownBy w' (blkOf a1) → wpList Try.prog ops Q rest (a.put o.dst (.slice a' (n1 + n2) c')) w') :
    wpList Try.prog ops Q (o :: rest) a w := by
  have hm := hsrc.size
  have hl := hown.size
  refine wpList_appV w hgd s x _ 3 ho Try.underlying22 _ 1 8 infoI64 rfl (by decide) B a1 n1 c1 _ hs hown.row a2 n2 c2 (cellsN m) hx (fun e => ?_) (by simp [cellsN]; exact hm) (fun ad e j u hu => ?_) (cellsN_one m) (by unfold maxLen; omega) (by omega) hB (fun a' c' w' hr hb hg => h a' c' w' ⟨by rw [List.length_append]; omega, by rw [cellsN, List.map_append]; exact hr, fun k hk => ?_⟩ hb hg)
  · have := hsrc.bare e
    have := hsrc.le
    omega
  · have hj : j < m.length := by have := (List.getElem?_eq_some_iff.1 hu).1; simpa [cellsN] using this
    obtain ⟨b, off, he, hc⟩ := hsrc.here (by omega)
    rw [e] at he
    obtain rfl := Option.some.inj he
    rw [cellsN_get m j hj] at hu
    obtain rfl := Option.some.inj hu
    rw [Addr.add_lit]
    exact hc j (by omega)
  · rcases List.mem_append.1 hk with hk | hk
    · exact hown.wf k hk
    · obtain ⟨j, hj, rfl⟩ := List.getElem_of_mem hk
      have := hsrc.wf j (by omega)
      simpa [List.getD, hj, in64] using this
/-- Instructions of a block appended to a row of the call's own. -/
theorem wpList_appI (w : World) {ops : Array Oper} {rest : List Oper} {o : Oper} {a : Act} {Q : Exit → Act → World → Prop} (hgd : o.guard = none) (s x : Operand)
    (ho : o.op = .call { callee := .builtin .append, args := #[s, x], argTypes := #[24, 24] })
    (B : Nat) (a1 : Option Addr) (n1 c1 : Nat) (l : List Ins) (hs : a.eval s = .slice a1 n1 c1) (hown : OwnI w B a1 n1 c1 l)
    (b n2 c2 : Nat) (m : List Ins) (hx : a.eval x = .slice (some ⟨b, 0, none⟩) n2 c2) (hsrc : Box w b 26 (insL m).toArray) (hm : m.length = n2) (hw : ∀ x ∈ m, in64I x)
    (hb : n1 + n2 ≤ 1000000) (hB : B ≤ w.heap.size)
    (h : ∀ a' c' w', OwnI w' B a' (n1 + n2) c' (l ++ m) → Below B w w' → w.grownBy w' (blkOf a1) → wpList Try.prog ops Q rest (a.put o.dst (.slice a' (n1 + n2) c')) w') :
    wpList Try.prog ops Q (o :: rest) a w := by
  have hl := hown.size
  refine wpList_appV w hgd s x _ 26 ho Try.underlying24 _ 4 32 infoInst rfl (by decide) B a1 n1 c1 _ hs hown.row (some ⟨b, 0, none⟩) n2 c2 (insL m) hx (fun e => by cases e) (by rw [insL_len, hm]) (fun ad e j u hu => ?_) (insL_one m) (by unfold maxLen; omega) (by omega) hB (fun a' c' w' hr hb hg => h a' c' w' ⟨by rw [List.length_append]; omega, by rw [insL_append]; exact hr, fun k hk => ?_⟩ hb hg)
  · obtain rfl := Option.some.inj e
    rw [Addr.add_lit, Nat.zero_add, hsrc.cell]
    simpa using hu
  · rcases List.mem_append.1 hk with hk | hk
    · exact hown.wf k hk
    · exact hw k hk
/-- Rows of the same slice: the code of tasks that are all alike. -/
structure OwnC (w : World) (B : Nat) (a : Option Addr) (len cap : Nat) (u : Value) : Prop where
  row : w.ownsRow B 24 1 (.slice a len cap) len (List.replicate len u)
theorem OwnC.nil (w : World) (B : Nat) (u : Value) : OwnC w B none 0 0 u := ⟨World.ownsRow_nil _ _ _ 1⟩
theorem OwnC.below {w w' : World} {B : Nat} {a : Option Addr} {len cap : Nat} {u : Value} (h : OwnC w B a len cap u) (hb : Below w.heap.size w w') : OwnC w' B a len cap u := ⟨row_below h.row hb⟩
theorem OwnC.is {w : World} {B : Nat} {a : Option Addr} {len cap : Nat} {ai : Option Addr} {ni ci : Nat} {l : List Ins} (h : OwnC w B a len cap (.slice ai ni ci)) (hi : IcAt w ai ni ci l) : CdAt w a len cap (List.replicate len l) := by
  obtain ⟨h1, h2, h3, h4⟩ := row_addr h.row
  have e := hi.size
  refine ⟨by simp, h1, h2, h3, fun hp => ?_⟩
  obtain ⟨g, rfl⟩ := h4 hp
  refine ⟨g, 0, rfl, fun j hj => ⟨ai, ci, ?_, ?_⟩⟩
  · rw [Nat.zero_add, h.row.cellAt j (by omega)]
    simp [List.getD, hj, e]
  · simp [List.getD, hj, e]
    exact hi
theorem infoSl : (Try.prog.info? 24).map (fun i => (i.zero, i.size, i.bytes)) = some (some (.slice none 0 0), 1, 24) := by kernel_rfl
theorem wpList_appC (w : World) {ops : Array Oper} {rest : List Oper} {o : Oper} {a : Act} {Q : Exit → Act → World → Prop} (hgd : o.guard = none) (s x : Operand)
    (ho : o.op = .call { callee := .builtin .append, args := #[s, x], argTypes := #[33, 33] })
    (B : Nat) (a1 : Option Addr) (n1 c1 : Nat) (u : Value) (hs : a.eval s = .slice a1 n1 c1) (hown : OwnC w B a1 n1 c1 u) (hu : u.oneCell' = true)
    (b c2 : Nat) (hx : a.eval x = .slice (some ⟨b, 0, none⟩) 1 c2) (hsrc : w.cell? ⟨b, 0, none⟩ = some u)
    (hb : n1 ≤ 1000) (hB : B ≤ w.heap.size)
    (h : ∀ a' c' w', OwnC w' B a' (n1 + 1) c' u → Below B w w' → w.grownBy w' (blkOf a1) → wpList Try.prog ops Q rest (a.put o.dst (.slice a' (n1 + 1) c')) w') :
    wpList Try.prog ops Q (o :: rest) a w := by
  refine wpList_appV w hgd s x _ 24 ho Try.underlying33 _ 1 24 infoSl rfl (by decide) B a1 n1 c1 _ hs hown.row (some ⟨b, 0, none⟩) 1 c2 [u] hx (fun e => by cases e) rfl (fun ad e j y hy => ?_) (by simpa using hu) (by unfold maxLen; omega) (by omega) hB (fun a' c' w' hr hb hg => h a' c' w' ⟨by rw [List.replicate_succ']; exact hr⟩ hb hg)
  obtain rfl := Option.some.inj e
  have hj : j = 0 := by have := (List.getElem?_eq_some_iff.1 hy).1; simpa using this
  subst hj
  simp at hy
  rw [Addr.add_lit, hsrc, hy]
end Go.Proofs.Ytehkcgjiimfdjab
