/- Rows of entries in memory. -/
import Derived.Test.YtgegjcnjlibfdaaGreatC11PlainA
import Derived.Test.YtgegjcnjlibfdaaGreatQa02
import Derived.Test.YtgegjcnjlibfdaaGreatQa00
import Derived.Deep.OwnRows
import Derived.BigQuiet
import Derived.Test.YtgegjcnjlibfdaaGreatQa03
import Derived.Maps.AppendAt
import Derived.Handy
namespace Go.Proofs.YtgegjcnjlibfdaaGreat
open Go.RowKit
set_option linter.unusedVariables false
set_option linter.unusedSimpArgs false
abbrev TKV : TypeId := 54
def kvc (e : KV) : List Value := [.string e.1.user, .int .u64 (e.1.seq : Int), .int .i64 e.1.kind, .string e.2]
def cellsKV (l : List KV) : List Value := l.flatMap kvc
theorem cellsKV_len : ∀ l : List KV, (cellsKV l).length = l.length * 4
  | [] => rfl
  | x :: r => by
    have := cellsKV_len r
    unfold cellsKV at this ⊢
    rw [List.flatMap_cons, List.length_append, this]
    simp [kvc]
    omega
theorem cellsKV_get : ∀ (l : List KV) (k i : Nat) (hk : k < l.length), i < 4 → (cellsKV l)[k * 4 + i]? = (kvc l[k])[i]?
  | x :: r, 0, i, _, hi => by
    unfold cellsKV
    rw [List.flatMap_cons, List.getElem?_append_left (by simp [kvc]; omega)]
    simp
  | x :: r, k + 1, i, hk, hi => by
    have := cellsKV_get r k i (by simpa using hk) hi
    unfold cellsKV at this ⊢
    rw [List.flatMap_cons, List.getElem?_append_right (by simp [kvc]; omega)]
    rw [show (k + 1) * 4 + i - (kvc x).length = k * 4 + i by simp [kvc]; omega, this]
    simp
/-- The slice value reads as keys with values. -/
structure KsAt (w : World) (a : Option Addr) (n c : Nat) (l : List KV) : Prop where
  size : l.length = n
  le : n ≤ c
  max : c ≤ maxLen
  here : 0 < n → ∃ b off, a = some ⟨b, off, none⟩ ∧ ∀ j, j < n * 4 → w.cell? ⟨b, off + j, none⟩ = (cellsKV l)[j]?
theorem KsAt.below {w w' : World} {a : Option Addr} {n c : Nat} {l : List KV} (h : KsAt w a n c l) (hb : Below w.heap.size w w') : KsAt w' a n c l := ⟨h.size, h.le, h.max, fun hp => by
  obtain ⟨b, off, ha, hc⟩ := h.here hp
  have hb0 : b < w.heap.size := by
    have h0 := hc 0 (by omega)
    have hz := h.size
    rw [List.getElem?_eq_getElem (by rw [cellsKV_len]; omega)] at h0
    exact World.block_lt_of_cell? w _ h0
  exact ⟨b, off, ha, fun j hj => by rw [hb.cell hb0]; exact hc j hj⟩⟩
theorem infoKV : (Tryz.prog.info? TKV).map (fun i => (i.zero, i.size, i.bytes)) = some (some (.agg #[.string ⟨#[]⟩, .int .u64 0, .int .i64 0, .string ⟨#[]⟩]), 4, 48) := by kernel_rfl
theorem made_kv (n : Nat) (hn : n ≤ 5864062014805) (w : World) : ∃ arr : Array Value, arr.size = n * 4 ∧ (Instr.makeSlice 23 (.int .i64 (n : Int)) (.int .i64 (n : Int))).run Tryz.prog w = .ok (.slice (some ⟨w.heap.size, 0, none⟩) n n) (w.alloc (.cells arr TKV)) := by
  obtain ⟨i, hi, hzz⟩ := Option.map_eq_some_iff.1 infoKV
  simp only [Prod.mk.injEq] at hzz
  obtain ⟨hz, hs, hb⟩ := hzz
  have hr := run_make (P := Tryz.prog) w 23 TKV i _ Tryz.underlying23 hi hz .i64 .i64 n n (by omega) (Int.le_refl _) (by rw [hb]; omega) (by omega)
  simp only [Int.toNat_natCast, hs] at hr
  exact ⟨_, by simp [madeCells], hr⟩
theorem setfour {arr : Array Value} {k : Nat} {x y z u : Value} (hs : k * 4 + 4 ≤ arr.size) (j : Nat) : ((((arr.setIfInBounds (k * 4) x).setIfInBounds (k * 4 + 1) y).setIfInBounds (k * 4 + 2) z).setIfInBounds (k * 4 + 3) u)[j]? = if j = k * 4 then some x else if j = k * 4 + 1 then some y else if j = k * 4 + 2 then some z else if j = k * 4 + 3 then some u else arr[j]? := by
  simp only [Array.getElem?_setIfInBounds, Array.size_setIfInBounds]
  repeat' split
  all_goals first | rfl | omega | simp_all
set_option maxRecDepth 100000 in
theorem idxKV (w : World) {a : Option Addr} {b off n c i : Nat} (ha : a = some ⟨b, off, none⟩) (hi : i < n) : (Instr.indexAt 23 (.slice a n c) (.int .i64 (i : Int))).run Tryz.prog w = .ok (.pointer (some ⟨b, off + i * 4, none⟩)) w := by
  subst ha
  have h1 : (0 : Int) ≤ (i : Int) ∧ (i : Int) < (n : Int) := by omega
  have hsz : (sizeOf (Tryz.prog.elem 23)).run Tryz.prog w = .ok 4 w := by kernel_rfl
  rw [run_indexAt_slice (P := Tryz.prog) (h := (by kernel_rfl : Tryz.prog.underlying 23 = some (.slice (Tryz.prog.elem 23)))), if_pos h1, hsz]
  simp [Result.andThen, Addr.add_lit]
theorem KsAt.cells4 {w : World} {a : Option Addr} {n c : Nat} {l : List KV} (h : KsAt w a n c l) (hp : 0 < n) : ∃ b off, a = some ⟨b, off, none⟩ ∧ ∀ k (hk : k < l.length), w.cell? ⟨b, off + k * 4, none⟩ = some (.string l[k].1.user) ∧ w.cell? ⟨b, off + k * 4 + 1, none⟩ = some (.int .u64 (l[k].1.seq : Int)) ∧ w.cell? ⟨b, off + k * 4 + 2, none⟩ = some (.int .i64 l[k].1.kind) ∧ w.cell? ⟨b, off + k * 4 + 3, none⟩ = some (.string l[k].2) := by
  obtain ⟨b, off, ha, hc⟩ := h.here hp
  have hs := h.size
  refine ⟨b, off, ha, fun k hk => ?_⟩
  have h0 := hc (k * 4 + 0) (by omega)
  have h1 := hc (k * 4 + 1) (by omega)
  have h2 := hc (k * 4 + 2) (by omega)
  have h3 := hc (k * 4 + 3) (by omega)
  rw [cellsKV_get l k _ hk (by omega)] at h0 h1 h2 h3
  simp only [Nat.add_zero, ← Nat.add_assoc] at h0 h1 h2 h3
  exact ⟨h0, h1, h2, h3⟩
theorem cellsKV_append (a b : List KV) : cellsKV (a ++ b) = cellsKV a ++ cellsKV b := by simp [cellsKV]
theorem KsAt.upTo {w : World} {a : Option Addr} {n c : Nat} {l : List KV} (h : KsAt w a n c l) {k : Nat} (hk : k ≤ n) : KsAt w a k c (l.take k) := by
  have hs := h.size
  refine ⟨by simp; omega, Nat.le_trans hk h.le, h.max, fun hp => ?_⟩
  obtain ⟨b, off, ha, hc⟩ := h.here (by omega)
  refine ⟨b, off, ha, fun j hj => ?_⟩
  rw [hc j (by omega)]
  have e : l = l.take k ++ l.drop k := (List.take_append_drop k l).symm
  conv => lhs; rw [e]
  rw [cellsKV_append, List.getElem?_append_left (by rw [cellsKV_len, List.length_take]; omega)]
theorem KsAt.drewN {w : World} {a : Option Addr} {n c : Nat} {l : List KV} (h : KsAt w a n c l) (d : Nat) : KsAt (w.drewN d) a n c l := ⟨h.size, h.le, h.max, h.here⟩
theorem cellsKV_one (l : List KV) : ∀ u ∈ cellsKV l, u.oneCell' = true := by
  intro u hu
  obtain ⟨e, _, he⟩ := List.mem_flatMap.1 hu
  simp [kvc] at he
  rcases he with rfl | rfl | rfl | rfl <;> rfl
theorem Below.drewM {B : Nat} {w w' : World} (h : Below B w w') (d : Nat) : Below B w (w'.drewN d) := ⟨h.os, h.tape, h.output, h.size, h.block⟩
theorem KsAt.nil (w : World) : KsAt w none 0 0 [] := ⟨rfl, Nat.le_refl _, Nat.zero_le _, fun h => absurd h (Nat.lt_irrefl _)⟩
/-- A row of entries of the call's own. -/
structure OwnK (w : World) (B : Nat) (a : Option Addr) (n c : Nat) (l : List KV) : Prop where
  size : l.length = n
  row : w.ownsRow B TKV 4 (.slice a n c) n (cellsKV l)
section
variable {w w' : World} {B : Nat} {a : Option Addr} {n c : Nat} {l : List KV}
theorem OwnK.ks (h : OwnK w B a n c l) : KsAt w a n c l := by
  obtain ⟨h1, h2, h3, h4⟩ := row_addr h.row
  have hs := h.size
  refine ⟨hs, h1, h2, fun hp => ?_⟩
  obtain ⟨g, rfl⟩ := h4 hp
  refine ⟨g, 0, rfl, fun j hj => ?_⟩
  rw [Nat.zero_add, h.row.cellAt j (by omega)]
theorem OwnK.nil (w : World) (B : Nat) : OwnK w B none 0 0 [] := ⟨rfl, World.ownsRow_nil _ _ _ 4⟩
theorem OwnK.below (h : OwnK w B a n c l) (hb : Below w.heap.size w w') : OwnK w' B a n c l := ⟨h.size, row_below h.row hb⟩
theorem OwnK.kept (h : OwnK w B a n c l) (hk : ∀ k, blkOf a = some k → w'.heap[k]? = w.heap[k]?) : OwnK w' B a n c l := ⟨h.size, row_same h.row (fun b e => hk b (by rw [← own_blk a n c]; exact e))⟩
theorem OwnK.tag (h : OwnK w B a n c l) {k : Nat} (hk : blkOf a = some k) : tag w k = some TKV := row_tag h.row (by rw [own_blk]; exact hk)
theorem OwnK.ge (h : OwnK w B a n c l) {k : Nat} (hk : blkOf a = some k) : B ≤ k := (h.row.lt k (by rw [own_blk]; exact hk)).1
theorem OwnK.less (h : OwnK w B a n c l) {B' : Nat} (hB : B' ≤ B) : OwnK w B' a n c l := by
  refine ⟨h.size, h.row.1, ?_⟩
  rcases h.row.2 with hn | ⟨g, c, cur, hv, hb, rest⟩
  · exact .inl hn
  · exact .inr ⟨g, c, cur, hv, Nat.le_trans hB hb, rest⟩
theorem OwnK.alloc (h : OwnK w B a n c l) (o : Obj) : OwnK (w.alloc o) B a n c l := ⟨h.size, h.row.alloc o⟩
end
theorem wpList_appK (w : World) {ops : Array Oper} {rest : List Oper} {o : Oper} {a : Act} {Q : Exit → Act → World → Prop} (hgd : o.guard = none) (s x : Operand)
    (ho : o.op = .call { callee := .builtin .append, args := #[s, x], argTypes := #[23, 23] })
    (B : Nat) (a1 : Option Addr) (n1 c1 : Nat) (l : List KV) (hs : a.eval s = .slice a1 n1 c1) (hown : OwnK w B a1 n1 c1 l)
    (a2 : Option Addr) (n2 c2 : Nat) (m : List KV) (hx : a.eval x = .slice a2 n2 c2) (hsrc : KsAt w a2 n2 c2 m) (hbare : a2 = none → c2 = 0)
    (hb : n1 + n2 ≤ 2000000000000) (hB : B ≤ w.heap.size)
    (h : ∀ a' c' w', OwnK w' B a' (n1 + n2) c' (l ++ m) → Below B w w' → w.grownBy w' (blkOf a1) → wpList Tryz.prog ops Q rest (a.put o.dst (.slice a' (n1 + n2) c')) w') :
    wpList Tryz.prog ops Q (o :: rest) a w := by
  have hm := hsrc.size
  have hl := hown.size
  refine wpList_appV w hgd s x _ TKV ho Tryz.underlying23 _ 4 48 infoKV rfl (by decide) B a1 n1 c1 _ hs hown.row a2 n2 c2 (cellsKV m) hx (fun e => ?_) (by rw [cellsKV_len, hm]) (fun ad e j u hu => ?_) (cellsKV_one m) (by unfold maxLen; omega) (by omega) hB (fun a' c' w' hr hb hg => h a' c' w' ⟨by rw [List.length_append]; omega, by rw [cellsKV_append]; exact hr⟩ hb hg)
  · have := hbare e
    have := hsrc.le
    omega
  · have hj : j < (cellsKV m).length := (List.getElem?_eq_some_iff.1 hu).1
    rw [cellsKV_len] at hj
    obtain ⟨b, off, he, hc⟩ := hsrc.here (by omega)
    rw [e] at he
    obtain rfl := Option.some.inj he
    rw [Addr.add_lit, hc j (by omega)]
    exact hu
theorem wpList_pushK (W : World) {ops : Array Oper} {rest : List Oper} {o : Oper} {a : Act} {Q : Exit → Act → World → Prop} (hgd : o.guard = none) (s x : Operand)
    (ho : o.op = .call { callee := .builtin .append, args := #[s, x], argTypes := #[23, 23] })
    (B : Nat) (a1 : Option Addr) (n1 c1 : Nat) (l : List KV) (hs : a.eval s = .slice a1 n1 c1) (hown : OwnK W B a1 n1 c1 l)
    (v : KV) (cv : Array Value) (hcv : cv.toList = kvc v) (hx : a.eval x = .slice (some ⟨W.heap.size, 0, none⟩) 1 1)
    (hb : n1 + 1 ≤ 2000000000000) (hB : B ≤ W.heap.size)
    (h : ∀ a' c' w', OwnK w' B a' (n1 + 1) c' (l ++ [v]) → Below B W w' → (W.alloc (.cells cv TKV)).grownBy w' (blkOf a1) → wpList Tryz.prog ops Q rest (a.put o.dst (.slice a' (n1 + 1) c')) w') :
    wpList Tryz.prog ops Q (o :: rest) a (W.alloc (.cells cv TKV)) := by
  have hk : KsAt (W.alloc (.cells cv TKV)) (some ⟨W.heap.size, 0, none⟩) 1 1 [v] := by
    refine ⟨rfl, Nat.le_refl _, by unfold maxLen; omega, fun _ => ⟨W.heap.size, 0, rfl, fun j hj => ?_⟩⟩
    rw [Nat.zero_add, (Box.new W TKV cv).cell, ← Array.getElem?_toList, hcv]
    simp [cellsKV]
  refine wpList_appK _ hgd s x ho B a1 n1 c1 l hs (hown.alloc _) _ 1 1 [v] hx hk (by simp) hb (by simp; omega) ?_
  intro a' c' w' h1 h2 h3
  exact h a' c' w' h1 (((Below.refl _ _).alloc hB _).trans h2) h3
end Go.Proofs.YtgegjcnjlibfdaaGreat
/- Parts of rows of entries. -/
namespace Go.Proofs.YtgegjcnjlibfdaaGreat
open Go.RowKit
set_option linter.unusedVariables false
set_option linter.unusedSimpArgs false
set_option maxRecDepth 100000 in
theorem ks_from {w0 : World} {l0 : List KV} {a : Option Addr} {n c : Nat} (h : KsAt w0 a n c l0) (hbare : a = none → c = 0) (hspot : ∀ x, a = some x → x.spot = none) (k : Nat) (hk : k ≤ n) :
    ∃ a', (∀ W : World, (Instr.slice 23 (.slice a n c) (some (.int .i64 (k : Int))) none none).run Tryz.prog W = .ok (.slice a' (n - k) (c - k)) W) ∧
      (∀ (W : World) (l : List KV), KsAt W a n c l → KsAt W a' (n - k) (c - k) (l.drop k)) ∧ (a' = none → c - k = 0) ∧ (∀ x, a' = some x → x.spot = none) := by
  have hle := h.le
  have hmx := h.max
  have hz : ∀ W, (sizeOf (Tryz.prog.elem 23)).run Tryz.prog W = .ok 4 W := fun W => by kernel_rfl
  cases a with
  | none =>
    have := hbare rfl
    obtain rfl : k = 0 := by omega
    obtain rfl : n = 0 := by omega
    obtain rfl : c = 0 := by omega
    refine ⟨none, fun W => ?_, fun W l hl => ?_, fun _ => rfl, fun x e => by cases e⟩
    · simp [Instr.slice, run_underlying Tryz.underlying23, go_sem]
    · simpa using hl
  | some ad =>
    obtain ⟨b, off, sp⟩ := ad
    obtain rfl : sp = none := hspot _ rfl
    by_cases h0 : c - k = 0
    · refine ⟨some ⟨b, off, none⟩, fun W => ?_, fun W l hl => ?_, fun e => (by cases e), fun x e => (by cases e; rfl)⟩
      · simp [Instr.slice, run_underlying Tryz.underlying23, go_sem]
        rw [if_pos hk, if_pos (by omega)]
      · have hs := hl.size
        obtain rfl : k = n := by omega
        rw [Nat.sub_self, List.drop_eq_nil_of_le (by omega)]
        exact ⟨rfl, Nat.zero_le _, by omega, fun h => absurd h (Nat.lt_irrefl _)⟩
    · refine ⟨some ⟨b, off + k * 4, none⟩, fun W => ?_, fun W l hl => ?_, fun e => (by cases e), fun x e => (by cases e; rfl)⟩
      · have hz2 := hz W
        simp [Instr.slice, run_underlying Tryz.underlying23, go_sem, hz2]
        rw [if_pos hk, if_neg (by omega)]
      · have hs := hl.size
        refine ⟨by simp; omega, by omega, by omega, fun hp => ⟨b, off + k * 4, rfl, fun j hj => ?_⟩⟩
        obtain ⟨b', o', he, hc⟩ := hl.here (by omega)
        simp only [Option.some.injEq, Addr.mk.injEq, and_true] at he
        obtain ⟨rfl, rfl⟩ := he
        rw [Nat.add_assoc, hc (k * 4 + j) (by omega)]
        conv => lhs; rw [← List.take_append_drop k l, cellsKV_append]
        rw [List.getElem?_append_right (by rw [cellsKV_len, List.length_take]; omega), cellsKV_len, List.length_take, Nat.min_eq_left (by omega), Nat.add_sub_cancel_left]
theorem OwnK.spot {w : World} {B : Nat} {a : Option Addr} {n c : Nat} {l : List KV} (h : OwnK w B a n c l) : (a = none → c = 0) ∧ ∀ x, a = some x → x.spot = none := by
  rcases h.row.2 with ⟨hv, hn⟩ | ⟨g, c', cur, hv, _⟩
  · simp only [Value.slice.injEq] at hv
    obtain ⟨rfl, rfl, rfl⟩ := hv
    exact ⟨fun _ => rfl, fun x e => by cases e⟩
  · simp only [Value.slice.injEq, true_and] at hv
    obtain ⟨rfl, rfl⟩ := hv
    exact ⟨fun e => (by cases e), fun x e => by cases e; rfl⟩
end Go.Proofs.YtgegjcnjlibfdaaGreat
/- Bytes appended to the call's own, and where the grown row lies; keys' bytes in memory of the call's own. -/
namespace Go.Proofs.YtgegjcnjlibfdaaGreat
open Go.RowKit
set_option linter.unusedVariables false
set_option linter.unusedSimpArgs false
theorem wpList_appAt (w : World) {ops : Array Oper} {rest : List Oper} {o : Oper} {a : Act} {Q : Exit → Act → World → Prop} (hgd : o.guard = none) (s x : Operand)
    (ho : o.op = .call { callee := .builtin .append, args := #[s, x], argTypes := #[27, 27] })
    (B : Nat) (a1 : Option Addr) (n1 c1 : Nat) (bs : List UInt8) (hs : a.eval s = .slice a1 n1 c1) (hown : OwnB w B a1 n1 c1 bs)
    (a2 : Option Addr) (n2 c2 : Nat) (cs : List UInt8) (hx : a.eval x = .slice a2 n2 c2) (hsrc : BsAt w a2 n2 c2 cs)
    (hl : n1 + n2 ≤ 140737488355328) (hB : B ≤ w.heap.size)
    (h : ∀ a' c' w', OwnB w' B a' (n1 + n2) c' (bs ++ cs) → Below B w w' → w.grownBy w' (blkOf a1) → (blkOf a' = blkOf a1 ∨ blkOf a' = some w.heap.size) → wpList Tryz.prog ops Q rest (a.put o.dst (.slice a' (n1 + n2) c')) w') :
    wpList Tryz.prog ops Q (o :: rest) a w := by
  refine wpList_plain hgd fun K hK => ?_
  obtain ⟨i, hi, hz0, hz1, hz2⟩ := info_parts infoU8
  have hsz := hsrc.size
  have hlt : ∀ k, (Value.slice a1 n1 c1).ownBlock = some k → B ≤ k := fun k hk => (hown.row.lt k hk).1
  cases a2 with
  | none =>
    have hc0 := hsrc.bare rfl
    have hle := hsrc.le
    obtain rfl : n2 = 0 := by omega
    subst hc0
    obtain rfl := List.eq_nil_of_length_eq_zero hsz
    have hrun := run_append_owned_none (P := Tryz.prog) (w := w) B 27 o.type 5 i 1 Tryz.underlying27 hi _ n1 _ hown.row
    unfold Oper.wp
    simp [execOp, ho, resolve, invoke, builtin, hs, hx, hrun, Result.andThen]
    exact hK _ _ (h a1 c1 w (by simpa using hown) (Below.refl _ _) (World.grownBy.refl _ _) (.inl rfl))
  | some ad =>
    have hcell : ∀ j u, (cellsB cs)[j]? = some u → w.cell? (ad.add j) = some u := by
      intro j u hu
      have hj : j < cs.length := by have := (List.getElem?_eq_some_iff.1 hu).1; rwa [cellsB_length] at this
      obtain ⟨b, off, he, hc⟩ := hsrc.here (by omega)
      obtain rfl := Option.some.inj he
      rw [cellsB_get cs j hj] at hu
      obtain rfl := Option.some.inj hu
      rw [Addr.add_lit]
      exact hc j (by omega)
    obtain ⟨v', w', hr, h2, h3, h4, h5⟩ := run_append_own_at (P := Tryz.prog) w B 27 o.type 5 i (.int .u8 0) 1 1 Tryz.underlying27 hi hz0 hz1 hz2 rfl (by decide) _ n1 _ hown.row ad n2 c2 (cellsB cs) (by rw [cellsB_length]; omega) hcell (cellsB_one cs) (by unfold maxLen; omega) (by omega) hB
    unfold Oper.wp execOp
    simp only [ho, resolve, invoke, builtin, Sem.run_bind, Sem.run_pure, Result.andThen_ok, List.map_toArray, List.map_cons, List.map_nil, hs, hx, hr]
    rw [← cellsB_append] at h2
    obtain ⟨a', c', rfl, ho'⟩ := own_of_row h2
    rw [own_blk, own_blk] at h5
    exact hK _ _ (h a' c' w' ho' ((Below.refl B w).grown h3 hB hlt) (by rw [← own_blk a1 n1 c1]; exact h3) h5)
theorem OwnB.tag {w : World} {B : Nat} {a : Option Addr} {n c : Nat} {l : List UInt8} (h : OwnB w B a n c l) {k : Nat} (hk : blkOf a = some k) : tag w k = some 5 := row_tag h.row (by rw [own_blk]; exact hk)
theorem OwnB.ge {w : World} {B : Nat} {a : Option Addr} {n c : Nat} {l : List UInt8} (h : OwnB w B a n c l) {k : Nat} (hk : blkOf a = some k) : B ≤ k := (h.row.lt k (by rw [own_blk]; exact hk)).1
theorem OwnB.kept {w w' : World} {B : Nat} {a : Option Addr} {n c : Nat} {l : List UInt8} (h : OwnB w B a n c l) (hk : ∀ k, blkOf a = some k → w'.heap[k]? = w.heap[k]?) : OwnB w' B a n c l := ⟨h.size, row_same h.row (fun b e => hk b (by rw [← own_blk a n c]; exact e))⟩
theorem OwnB.nil (w : World) (B : Nat) : OwnB w B none 0 0 [] := ⟨rfl, World.ownsRow_nil _ _ _ 1⟩
set_option maxRecDepth 100000 in
set_option maxHeartbeats 400000 in
theorem encode_own (s : ByteArray) (q : Nat) (k : Int) (w : World) (hs : s.size ≤ 140737488351232) :
    Calls Tryz.prog 100 #[.agg #[.string s, .int .u64 (q : Int), .int .i64 k]] w fun e w' => ∃ a' c', e = .returned (.tuple #[.slice a' (keyEnc s.data.toList q k).length c', .int .i64 ((chk s.size q k : Nat) : Int)]) ∧ OwnB w' w.heap.size a' (keyEnc s.data.toList q k).length c' (keyEnc s.data.toList q k) ∧ Below w.heap.size w w' := by
  have hsl : s.data.toList.length = s.size := by rw [Array.length_toList]; rfl
  have hb0 : Below w.heap.size w (w.alloc (.cells #[.string s, .int .u64 (q : Int), .int .i64 k] 52)) := (Below.refl _ _).alloc (Nat.le_refl _) _
  by_cases h : chk s.size q k = 0
  · have hy := keyEnc_yes (s := s.data.toList) (q := q) (k := k) (by rw [hsl]; exact h)
    obtain ⟨h1, h2, h3⟩ := chk_zero h
    have HE : Hid (keyEnc s.data.toList q k = s.data.toList ++ fxEnc (q * 256 + k.toNat) 8) := hy
    have HL : Hid (s.data.toList.length = s.size) := hsl
    have HK : Hid (chk s.size q k = 0) := h
    have HO : Hid (_ = _) := key_or q k h2 h3
    have hn : q * 256 + k.toNat < 18446744073709551616 := by omega
    have hck := fun W => check_any s q k W (by omega)
    rw [h] at hck
    clear h h3 hy hsl
    have hcv : ∀ W : World, (convert 9 27 (.string s)).run Tryz.prog W = .ok (.slice (some ⟨W.heap.size, 0, none⟩) s.size (grownCap W s.size 0 5))
        (W.drew.alloc (.cells (bytesRow s (grownCap W s.size 0 5)) 5 ((bytesRow s (grownCap W s.size 0 5)).size, (bytesRow s (grownCap W s.size 0 5)).size + 1))) :=
      fun W => run_bytes_of_string W 9 27 5 s Tryz.underlying9 Tryz.underlying27 Tryz.underlying5
    go_enter Tryz.func100, Tryz.ntmps100
    go_wp2_with (first
      | (go_at_call 96; refine (hck _).mono ?_; rintro e w1 ⟨rfl, hb1⟩
         have f0 : w1.cell? ⟨w.heap.size, 0, none⟩ = some (.string s) := by rw [hb1.cell (by simp)]; simp
         have hz1 : w.heap.size < w1.heap.size := by have := hb1.size; simp at this; omega
         have f1 : w1.cell? ⟨w.heap.size, 1, none⟩ = some (.int .u64 (q : Int)) := by rw [hb1.cell (by simp)]; simp
         have f2 : w1.cell? ⟨w.heap.size, 2, none⟩ = some (.int .i64 k) := by rw [hb1.cell (by simp)]; simp)
      | fail)
    rw [HO.out]
    refine (putFixed_any _ _ _ s.data.toList (q * 256 + k.toNat) 8 _ (BsAt.ofStr w1 s _ _ (grownCap_ge _ _ _ _) (grownCap_le_maxLen _ _ _ _ (by unfold maxLen; omega))) hn (by omega)).mono ?_
    rintro e w2 ⟨a2, c2, rfl, ho2, hb2⟩
    have hB : Below w.heap.size w w2 := by
      have h3 := hb0.trans (hb1.mono hb0.size)
      exact ((h3.alloc h3.size _).drew).trans (hb2.mono (by simp; omega))
    clear hb2
    go_wp2
    go_ret2
    rw [HE.out, List.length_append, HL.out, HK.out]
    exact ⟨a2, c2, ret2 rfl rfl, ho2.mono (by have := hB.size; have := hz1; simp; omega), hB⟩
  · have HE : Hid (keyEnc s.data.toList q k = []) := keyEnc_no (by rw [hsl]; exact h)
    have hne : (((chk s.size q k : Nat) : Int) != 0) = true := by simp; omega
    have hck := fun W => check_any s q k W (by omega)
    generalize chk s.size q k = c at hne hck
    clear h
    go_enter Tryz.func100, Tryz.ntmps100
    go_wp2_with (go_at_call 96; refine (hck _).mono ?_; rintro e w1 ⟨rfl, hb1⟩)
    go_ret2
    rw [HE.out]
    exact ⟨none, 0, ret2 rfl rfl, OwnB.nil _ _, hb0.trans (hb1.mono hb0.size)⟩
end Go.Proofs.YtgegjcnjlibfdaaGreat
/- Parts of slices of bytes, cut at numbers without a sign. -/
namespace Go.Proofs.YtgegjcnjlibfdaaGreat
open Go.RowKit
theorem slice_from_u (b off len cap k : Nat) (hk : k ≤ len) (hc : len ≤ cap) :
    ∃ o', (∀ W : World, (Instr.slice 27 (.slice (some ⟨b, off, none⟩) len cap) (some (.int .u64 (k : Int))) none none).run Tryz.prog W = .ok (.slice (some ⟨b, o', none⟩) (len - k) (cap - k)) W) ∧
      (∀ (W : World) (bs : List UInt8), BsAt W (some ⟨b, off, none⟩) len cap bs → BsAt W (some ⟨b, o', none⟩) (len - k) (cap - k) (bs.drop k)) := by
  by_cases h0 : cap - k = 0
  · refine ⟨off, fun W => ?_, fun W bs h => ?_⟩
    · simp [Instr.slice, run_underlying Tryz.underlying27, go_sem]
      rw [if_pos hk, if_pos (by omega)]
    · have hs := h.size
      have hm := h.max
      obtain rfl : k = len := by omega
      rw [Nat.sub_self, List.drop_eq_nil_of_le (by omega)]
      exact BsAt.empty _ _ (by omega)
  · refine ⟨off + k, fun W => ?_, fun W bs h => ?_⟩
    · simp [Instr.slice, run_underlying Tryz.underlying27, go_sem]
      rw [if_pos hk, if_neg (by omega)]
    · have := h.sub k (len - k) (by omega)
      rwa [List.take_of_length_le (by have := h.size; simp; omega)] at this
theorem slice_any_u {w0 : World} {bs0 : List UInt8} {a : Option Addr} {len cap : Nat} (h : BsAt w0 a len cap bs0) (k : Nat) (hk : k ≤ len) :
    ∃ a', (∀ W : World, (Instr.slice 27 (.slice a len cap) (some (.int .u64 (k : Int))) none none).run Tryz.prog W = .ok (.slice a' (len - k) (cap - k)) W) ∧
      (∀ (W : World) (bs : List UInt8), BsAt W a len cap bs → BsAt W a' (len - k) (cap - k) (bs.drop k)) := by
  have hle := h.le
  have hmx := h.max
  by_cases h0 : len = 0
  · subst h0
    obtain rfl : k = 0 := by omega
    cases a with
    | none =>
      obtain rfl := h.bare rfl
      refine ⟨none, fun W => ?_, fun W bs hb => hb⟩
      simp [Instr.slice, run_underlying Tryz.underlying27, go_sem]
    | some ad =>
      obtain ⟨b, off, s⟩ := ad
      by_cases hc : cap = 0
      · subst hc
        refine ⟨some ⟨b, off, s⟩, fun W => ?_, fun W bs hb => hb⟩
        simp [Instr.slice, run_underlying Tryz.underlying27, go_sem]
      · refine ⟨some ((⟨b, off, s⟩ : Addr).add 0), fun W => ?_, fun W bs hb => ?_⟩
        · simp [Instr.slice, run_underlying Tryz.underlying27, go_sem]
          try rw [if_neg hc]
        · have := hb.size
          rw [List.eq_nil_of_length_eq_zero this]
          exact BsAt.empty _ _ (by omega)
  · obtain ⟨b, off, rfl, _⟩ := h.here (by omega)
    obtain ⟨o', h1, h2⟩ := slice_from_u b off len cap k hk hle
    exact ⟨some ⟨b, o', none⟩, h1, h2⟩
theorem slice_to_u {w0 : World} {bs0 : List UInt8} {a : Option Addr} {len cap : Nat} (h : BsAt w0 a len cap bs0) (k : Nat) (hk : k ≤ len) :
    ∃ a', (∀ W : World, (Instr.slice 27 (.slice a len cap) none (some (.int .u64 (k : Int))) none).run Tryz.prog W = .ok (.slice a' k cap) W) ∧
      (∀ (W : World) (bs : List UInt8), BsAt W a len cap bs → BsAt W a' k cap (bs.take k)) := by
  have hle := h.le
  have hmx := h.max
  cases a with
  | none =>
    obtain rfl := h.bare rfl
    obtain rfl : k = 0 := by omega
    refine ⟨none, fun W => ?_, fun W bs hb => hb.upTo 0 (by omega)⟩
    simp [Instr.slice, run_underlying Tryz.underlying27, go_sem]
  | some ad =>
    obtain ⟨b, off, s⟩ := ad
    by_cases hc : cap = 0
    · subst hc
      obtain rfl : k = 0 := by omega
      refine ⟨some ⟨b, off, s⟩, fun W => ?_, fun W bs hb => hb.upTo 0 (by omega)⟩
      simp [Instr.slice, run_underlying Tryz.underlying27, go_sem]
    · refine ⟨some ⟨b, off, s⟩, fun W => ?_, fun W bs hb => hb.upTo k hk⟩
      simp [Instr.slice, run_underlying Tryz.underlying27, go_sem]
      intro hh
      omega
end Go.Proofs.YtgegjcnjlibfdaaGreat
/- The contracts of bytes.Clone and bytes.Equal. -/
namespace Go.Proofs.YtgegjcnjlibfdaaGreat
open Go.RowKit
set_option linter.unusedVariables false
set_option linter.unusedSimpArgs false
set_option maxRecDepth 100000 in
set_option maxHeartbeats 1000000 in
theorem clone_any (a : Option Addr) (n c : Nat) (b : List UInt8) (w : World) (h : BsAt w a n c b) (hn : n ≤ 140737488355328) :
    Calls Tryz.prog 36 #[.slice a n c] w fun e w' => ∃ a' c', e = .returned (.slice a' n c') ∧ OwnB w' w.heap.size a' n c' b ∧ Below w.heap.size w w' := by
  have hs := h.size
  cases a with
  | none =>
    have hc := h.bare rfl
    have hl := h.le
    obtain rfl : n = 0 := by omega
    subst hc
    obtain rfl := List.eq_nil_of_length_eq_zero hs
    have hnil : ∀ W : World, (binOp .eql 27 (.slice none 0 0) (.slice none 0 0)).run Tryz.prog W = .ok (.bool true) W := fun _ => rfl
    go_enter Tryz.func36, Tryz.ntmps36
    go_wp2
    go_ret
    exact ⟨none, 0, ret1 rfl, OwnB.nil _ _, Below.refl _ _⟩
  | some ad =>
    have hnil : ∀ W : World, (binOp .eql 27 (.slice (some ad) n c) (.slice none 0 0)).run Tryz.prog W = .ok (.bool false) W := fun _ => rfl
    go_enter Tryz.func36, Tryz.ntmps36
    go_wp2_with (first | (at_builtin; refine wpList_app0 w rfl _ _ rfl rfl _ n c b rfl h hn ?_))
    intro a' c' w' ho hb
    go_wp2
    go_ret
    exact ⟨a', c', ret1 rfl, ho, hb⟩
set_option maxRecDepth 100000 in
set_option maxHeartbeats 1000000 in
theorem equal_any (a a' : Option Addr) (n c n' c' : Nat) (b b' : List UInt8) (w : World) (h : BsAt w a n c b) (h' : BsAt w a' n' c' b') :
    Calls Tryz.prog 79 #[.slice a n c, .slice a' n' c'] w fun e w' => e = .returned (.bool (decide (b = b'))) ∧ w = w' := by
  have h1 := conv_of h
  have h2 := conv_of h'
  have hE : Hid (((strOf b).toList == (strOf b').toList) = decide (b = b')) := by
    show ((strOf b).toList == (strOf b').toList) = decide (b = b')
    rw [ByteArray.toList_eq, ByteArray.toList_eq]
    show ((strOf b).data.toList == (strOf b').data.toList) = decide (b = b')
    rw [show (strOf b).data.toList = b by simp [strOf], show (strOf b').data.toList = b' by simp [strOf]]
    by_cases e : b = b'
    · subst e; simp
    · simp [e]
  generalize strOf b = s1 at h1 hE
  generalize strOf b' = s2 at h2 hE
  go_enter Tryz.func79, Tryz.ntmps79
  go_wp2
  go_ret
  rw [← hE.out]
  exact ⟨ret1 rfl, rfl⟩
end Go.Proofs.YtgegjcnjlibfdaaGreat
