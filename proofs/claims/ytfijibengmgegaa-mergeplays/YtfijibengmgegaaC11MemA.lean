/- Rows of entries in memory. -/
import Derived.Test.YtfijibengmgegaaC11PlainA
import Derived.Test.YtfijibengmgegaaS7Rows
import Derived.Test.YtfijibengmgegaaOwn
import Derived.Deep.OwnRows
import Derived.BigQuiet
import Derived.Test.YtfijibengmgegaaQa04
import Derived.Test.YtfijibengmgegaaBoxM
import Derived.Maps.AppendAt
import Derived.Handy
namespace Go.Proofs.Ytfijibengmgegaa
open Go.RowKit
set_option linter.unusedVariables false
set_option linter.unusedSimpArgs false
abbrev TKV : TypeId := 35
def kvc (e : KV) : List Value := [.string e.1.user, .int .u64 (e.1.seq : Int), .int .i64 e.1.kind, .string e.2]
def cellsKV (l : List KV) : List Value := l.flatMap kvc
theorem cellsKV_len : ∀ l : List KV, (cellsKV l).length = l.length * 4
  | [] => rfl
  | x :: r => by
    have := cellsKV_len r
    unfold cellsKV at this ⊢
    rw [List.flatMap_cons, List.length_append, this]
    simp [kvc]
    omega
theorem cellsKV_get : ∀ (l : List KV) (k i : Nat) (hk : k < l.length), i < 4 → (cellsKV l)[k * 4 + i]? = (kvc l[k])[i]?
  | x :: r, 0, i, _, hi => by
    unfold cellsKV
    rw [List.flatMap_cons, List.getElem?_append_left (by simp [kvc]; omega)]
    simp
  | x :: r, k + 1, i, hk, hi => by
    have := cellsKV_get r k i (by simpa using hk) hi
    unfold cellsKV at this ⊢
    rw [List.flatMap_cons, List.getElem?_append_right (by simp [kvc]; omega)]
    rw [show (k + 1) * 4 + i - (kvc x).length = k * 4 + i by simp [kvc]; omega, this]
    simp
/-- The slice value reads as keys with values. -/
structure KsAt (w : World) (a : Option Addr) (n c : Nat) (l : List KV) : Prop where
  size : l.length = n
  le : n ≤ c
  max : c ≤ maxLen
  here : 0 < n → ∃ b off, a = some ⟨b, off, none⟩ ∧ ∀ j, j < n * 4 → w.cell? ⟨b, off + j, none⟩ = (cellsKV l)[j]?
theorem KsAt.below {w w' : World} {a : Option Addr} {n c : Nat} {l : List KV} (h : KsAt w a n c l) (hb : Below w.heap.size w w') : KsAt w' a n c l := ⟨h.size, h.le, h.max, fun hp => by
  obtain ⟨b, off, ha, hc⟩ := h.here hp
  have hb0 : b < w.heap.size := by
    have h0 := hc 0 (by omega)
    have hz := h.size
    rw [List.getElem?_eq_getElem (by rw [cellsKV_len]; omega)] at h0
    exact World.block_lt_of_cell? w _ h0
  exact ⟨b, off, ha, fun j hj => by rw [hb.cell hb0]; exact hc j hj⟩⟩
theorem infoKV : (Try.prog.info? TKV).map (fun i => (i.zero, i.size, i.bytes)) = some (some (.agg #[.string ⟨#[]⟩, .int .u64 0, .int .i64 0, .string ⟨#[]⟩]), 4, 48) := by kernel_rfl
theorem made_kv (n : Nat) (hn : n ≤ 5864062014805) (w : World) : ∃ arr : Array Value, arr.size = n * 4 ∧ (Instr.makeSlice 26 (.int .i64 (n : Int)) (.int .i64 (n : Int))).run Try.prog w = .ok (.slice (some ⟨w.heap.size, 0, none⟩) n n) (w.alloc (.cells arr TKV)) := by
  obtain ⟨i, hi, hzz⟩ := Option.map_eq_some_iff.1 infoKV
  simp only [Prod.mk.injEq] at hzz
  obtain ⟨hz, hs, hb⟩ := hzz
  have hr := run_make (P := Try.prog) w 26 TKV i _ Try.underlying26 hi hz .i64 .i64 n n (by omega) (Int.le_refl _) (by rw [hb]; omega) (by omega)
  simp only [Int.toNat_natCast, hs] at hr
  exact ⟨_, by simp [madeCells], hr⟩
theorem setfour {arr : Array Value} {k : Nat} {x y z u : Value} (hs : k * 4 + 4 ≤ arr.size) (j : Nat) : ((((arr.setIfInBounds (k * 4) x).setIfInBounds (k * 4 + 1) y).setIfInBounds (k * 4 + 2) z).setIfInBounds (k * 4 + 3) u)[j]? = if j = k * 4 then some x else if j = k * 4 + 1 then some y else if j = k * 4 + 2 then some z else if j = k * 4 + 3 then some u else arr[j]? := by
  simp only [Array.getElem?_setIfInBounds, Array.size_setIfInBounds]
  repeat' split
  all_goals first | rfl | omega | simp_all
set_option maxRecDepth 100000 in
theorem idxKV (w : World) {a : Option Addr} {b off n c i : Nat} (ha : a = some ⟨b, off, none⟩) (hi : i < n) : (Instr.indexAt 26 (.slice a n c) (.int .i64 (i : Int))).run Try.prog w = .ok (.pointer (some ⟨b, off + i * 4, none⟩)) w := by
  subst ha
  have h1 : (0 : Int) ≤ (i : Int) ∧ (i : Int) < (n : Int) := by omega
  have hsz : (sizeOf (Try.prog.elem 26)).run Try.prog w = .ok 4 w := by kernel_rfl
  rw [run_indexAt_slice (P := Try.prog) (h := (by kernel_rfl : Try.prog.underlying 26 = some (.slice (Try.prog.elem 26)))), if_pos h1, hsz]
  simp [Result.andThen, Addr.add_lit]
theorem KsAt.cells4 {w : World} {a : Option Addr} {n c : Nat} {l : List KV} (h : KsAt w a n c l) (hp : 0 < n) : ∃ b off, a = some ⟨b, off, none⟩ ∧ ∀ k (hk : k < l.length), w.cell? ⟨b, off + k * 4, none⟩ = some (.string l[k].1.user) ∧ w.cell? ⟨b, off + k * 4 + 1, none⟩ = some (.int .u64 (l[k].1.seq : Int)) ∧ w.cell? ⟨b, off + k * 4 + 2, none⟩ = some (.int .i64 l[k].1.kind) ∧ w.cell? ⟨b, off + k * 4 + 3, none⟩ = some (.string l[k].2) := by
  obtain ⟨b, off, ha, hc⟩ := h.here hp
  have hs := h.size
  refine ⟨b, off, ha, fun k hk => ?_⟩
  have h0 := hc (k * 4 + 0) (by omega)
  have h1 := hc (k * 4 + 1) (by omega)
  have h2 := hc (k * 4 + 2) (by omega)
  have h3 := hc (k * 4 + 3) (by omega)
  rw [cellsKV_get l k _ hk (by omega)] at h0 h1 h2 h3
  simp only [Nat.add_zero, ← Nat.add_assoc] at h0 h1 h2 h3
  exact ⟨h0, h1, h2, h3⟩
theorem cellsKV_append (a b : List KV) : cellsKV (a ++ b) = cellsKV a ++ cellsKV b := by simp [cellsKV]
theorem KsAt.upTo {w : World} {a : Option Addr} {n c : Nat} {l : List KV} (h : KsAt w a n c l) {k : Nat} (hk : k ≤ n) : KsAt w a k c (l.take k) := by
  have hs := h.size
  refine ⟨by simp; omega, Nat.le_trans hk h.le, h.max, fun hp => ?_⟩
  obtain ⟨b, off, ha, hc⟩ := h.here (by omega)
  refine ⟨b, off, ha, fun j hj => ?_⟩
  rw [hc j (by omega)]
  have e : l = l.take k ++ l.drop k := (List.take_append_drop k l).symm
  conv => lhs; rw [e]
  rw [cellsKV_append, List.getElem?_append_left (by rw [cellsKV_len, List.length_take]; omega)]
theorem KsAt.drewN {w : World} {a : Option Addr} {n c : Nat} {l : List KV} (h : KsAt w a n c l) (d : Nat) : KsAt (w.drewN d) a n c l := ⟨h.size, h.le, h.max, h.here⟩
theorem cellsKV_one (l : List KV) : ∀ u ∈ cellsKV l, u.oneCell' = true := by
  intro u hu
  obtain ⟨e, _, he⟩ := List.mem_flatMap.1 hu
  simp [kvc] at he
  rcases he with rfl | rfl | rfl | rfl <;> rfl
theorem Below.drewM {B : Nat} {w w' : World} (h : Below B w w') (d : Nat) : Below B w (w'.drewN d) := ⟨h.os, h.tape, h.output, h.size, h.block⟩
theorem KsAt.nil (w : World) : KsAt w none 0 0 [] := ⟨rfl, Nat.le_refl _, Nat.zero_le _, fun h => absurd h (Nat.lt_irrefl _)⟩
/-- A row of entries of the call's own. -/
structure OwnK (w : World) (B : Nat) (a : Option Addr) (n c : Nat) (l : List KV) : Prop where
  size : l.length = n
  row : w.ownsRow B TKV 4 (.slice a n c) n (cellsKV l)
section
variable {w w' : World} {B : Nat} {a : Option Addr} {n c : Nat} {l : List KV}
theorem OwnK.ks (h : OwnK w B a n c l) : KsAt w a n c l := by
  obtain ⟨h1, h2, h3, h4⟩ := row_addr h.row
  have hs := h.size
  refine ⟨hs, h1, h2, fun hp => ?_⟩
  obtain ⟨g, rfl⟩ := h4 hp
  refine ⟨g, 0, rfl, fun j hj => ?_⟩
  rw [Nat.zero_add, h.row.cellAt j (by omega)]
theorem OwnK.nil (w : World) (B : Nat) : OwnK w B none 0 0 [] := ⟨rfl, World.ownsRow_nil _ _ _ 4⟩
theorem OwnK.below (h : OwnK w B a n c l) (hb : Below w.heap.size w w') : OwnK w' B a n c l := ⟨h.size, row_below h.row hb⟩
theorem OwnK.kept (h : OwnK w B a n c l) (hk : ∀ k, blkOf a = some k → w'.heap[k]? = w.heap[k]?) : OwnK w' B a n c l := ⟨h.size, row_same h.row (fun b e => hk b (by rw [← own_blk a n c]; exact e))⟩
theorem OwnK.tag (h : OwnK w B a n c l) {k : Nat} (hk : blkOf a = some k) : tag w k = some TKV := row_tag h.row (by rw [own_blk]; exact hk)
theorem OwnK.ge (h : OwnK w B a n c l) {k : Nat} (hk : blkOf a = some k) : B ≤ k := (h.row.lt k (by rw [own_blk]; exact hk)).1
theorem OwnK.less (h : OwnK w B a n c l) {B' : Nat} (hB : B' ≤ B) : OwnK w B' a n c l := by
  refine ⟨h.size, h.row.1, ?_⟩
  rcases h.row.2 with hn | ⟨g, c, cur, hv, hb, rest⟩
  · exact .inl hn
  · exact .inr ⟨g, c, cur, hv, Nat.le_trans hB hb, rest⟩
theorem OwnK.alloc (h : OwnK w B a n c l) (o : Obj) : OwnK (w.alloc o) B a n c l := ⟨h.size, h.row.alloc o⟩
end
theorem wpList_appK (w : World) {ops : Array Oper} {rest : List Oper} {o : Oper} {a : Act} {Q : Exit → Act → World → Prop} (hgd : o.guard = none) (s x : Operand)
    (ho : o.op = .call { callee := .builtin .append, args := #[s, x], argTypes := #[26, 26] })
    (B : Nat) (a1 : Option Addr) (n1 c1 : Nat) (l : List KV) (hs : a.eval s = .slice a1 n1 c1) (hown : OwnK w B a1 n1 c1 l)
    (a2 : Option Addr) (n2 c2 : Nat) (m : List KV) (hx : a.eval x = .slice a2 n2 c2) (hsrc : KsAt w a2 n2 c2 m) (hbare : a2 = none → c2 = 0)
    (hb : n1 + n2 ≤ 2000000000000) (hB : B ≤ w.heap.size)
    (h : ∀ a' c' w', OwnK w' B a' (n1 + n2) c' (l ++ m) → Below B w w' → w.grownBy w' (blkOf a1) → wpList Try.prog ops Q rest (a.put o.dst (.slice a' (n1 + n2) c')) w') :
    wpList Try.prog ops Q (o :: rest) a w := by
  have hm := hsrc.size
  have hl := hown.size
  refine wpList_appV w hgd s x _ TKV ho Try.underlying26 _ 4 48 infoKV rfl (by decide) B a1 n1 c1 _ hs hown.row a2 n2 c2 (cellsKV m) hx (fun e => ?_) (by rw [cellsKV_len, hm]) (fun ad e j u hu => ?_) (cellsKV_one m) (by unfold maxLen; omega) (by omega) hB (fun a' c' w' hr hb hg => h a' c' w' ⟨by rw [List.length_append]; omega, by rw [cellsKV_append]; exact hr⟩ hb hg)
  · have := hbare e
    have := hsrc.le
    omega
  · have hj : j < (cellsKV m).length := (List.getElem?_eq_some_iff.1 hu).1
    rw [cellsKV_len] at hj
    obtain ⟨b, off, he, hc⟩ := hsrc.here (by omega)
    rw [e] at he
    obtain rfl := Option.some.inj he
    rw [Addr.add_lit, hc j (by omega)]
    exact hu
theorem wpList_pushK (W : World) {ops : Array Oper} {rest : List Oper} {o : Oper} {a : Act} {Q : Exit → Act → World → Prop} (hgd : o.guard = none) (s x : Operand)
    (ho : o.op = .call { callee := .builtin .append, args := #[s, x], argTypes := #[26, 26] })
    (B : Nat) (a1 : Option Addr) (n1 c1 : Nat) (l : List KV) (hs : a.eval s = .slice a1 n1 c1) (hown : OwnK W B a1 n1 c1 l)
    (v : KV) (cv : Array Value) (hcv : cv.toList = kvc v) (hx : a.eval x = .slice (some ⟨W.heap.size, 0, none⟩) 1 1)
    (hb : n1 + 1 ≤ 2000000000000) (hB : B ≤ W.heap.size)
    (h : ∀ a' c' w', OwnK w' B a' (n1 + 1) c' (l ++ [v]) → Below B W w' → (W.alloc (.cells cv TKV)).grownBy w' (blkOf a1) → wpList Try.prog ops Q rest (a.put o.dst (.slice a' (n1 + 1) c')) w') :
    wpList Try.prog ops Q (o :: rest) a (W.alloc (.cells cv TKV)) := by
  have hk : KsAt (W.alloc (.cells cv TKV)) (some ⟨W.heap.size, 0, none⟩) 1 1 [v] := by
    refine ⟨rfl, Nat.le_refl _, by unfold maxLen; omega, fun _ => ⟨W.heap.size, 0, rfl, fun j hj => ?_⟩⟩
    rw [Nat.zero_add, (Box.new W TKV cv).cell, ← Array.getElem?_toList, hcv]
    simp [cellsKV]
  refine wpList_appK _ hgd s x ho B a1 n1 c1 l hs (hown.alloc _) _ 1 1 [v] hx hk (by simp) hb (by simp; omega) ?_
  intro a' c' w' h1 h2 h3
  exact h a' c' w' h1 (((Below.refl _ _).alloc hB _).trans h2) h3
end Go.Proofs.Ytfijibengmgegaa
/- Parts of rows of entries. -/
namespace Go.Proofs.Ytfijibengmgegaa
open Go.RowKit
set_option linter.unusedVariables false
set_option linter.unusedSimpArgs false
set_option maxRecDepth 100000 in
theorem ks_from {w0 : World} {l0 : List KV} {a : Option Addr} {n c : Nat} (h : KsAt w0 a n c l0) (hbare : a = none → c = 0) (hspot : ∀ x, a = some x → x.spot = none) (k : Nat) (hk : k ≤ n) :
    ∃ a', (∀ W : World, (Instr.slice 26 (.slice a n c) (some (.int .i64 (k : Int))) none none).run Try.prog W = .ok (.slice a' (n - k) (c - k)) W) ∧
      (∀ (W : World) (l : List KV), KsAt W a n c l → KsAt W a' (n - k) (c - k) (l.drop k)) ∧ (a' = none → c - k = 0) ∧ (∀ x, a' = some x → x.spot = none) := by
  have hle := h.le
  have hmx := h.max
  have hz : ∀ W, (sizeOf (Try.prog.elem 26)).run Try.prog W = .ok 4 W := fun W => by kernel_rfl
  cases a with
  | none =>
    have := hbare rfl
    obtain rfl : k = 0 := by omega
    obtain rfl : n = 0 := by omega
    obtain rfl : c = 0 := by omega
    refine ⟨none, fun W => ?_, fun W l hl => ?_, fun _ => rfl, fun x e => by cases e⟩
    · simp [Instr.slice, run_underlying Try.underlying26, go_sem]
    · simpa using hl
  | some ad =>
    obtain ⟨b, off, sp⟩ := ad
    obtain rfl : sp = none := hspot _ rfl
    by_cases h0 : c - k = 0
    · refine ⟨some ⟨b, off, none⟩, fun W => ?_, fun W l hl => ?_, fun e => (by cases e), fun x e => (by cases e; rfl)⟩
      · simp [Instr.slice, run_underlying Try.underlying26, go_sem]
        rw [if_pos hk, if_pos (by omega)]
      · have hs := hl.size
        obtain rfl : k = n := by omega
        rw [Nat.sub_self, List.drop_eq_nil_of_le (by omega)]
        exact ⟨rfl, Nat.zero_le _, by omega, fun h => absurd h (Nat.lt_irrefl _)⟩
    · refine ⟨some ⟨b, off + k * 4, none⟩, fun W => ?_, fun W l hl => ?_, fun e => (by cases e), fun x e => (by cases e; rfl)⟩
      · have hz2 := hz W
        simp [Instr.slice, run_underlying Try.underlying26, go_sem, hz2]
        rw [if_pos hk, if_neg (by omega)]
      · have hs := hl.size
        refine ⟨by simp; omega, by omega, by omega, fun hp => ⟨b, off + k * 4, rfl, fun j hj => ?_⟩⟩
        obtain ⟨b', o', he, hc⟩ := hl.here (by omega)
        simp only [Option.some.injEq, Addr.mk.injEq, and_true] at he
        obtain ⟨rfl, rfl⟩ := he
        rw [Nat.add_assoc, hc (k * 4 + j) (by omega)]
        conv => lhs; rw [← List.take_append_drop k l, cellsKV_append]
        rw [List.getElem?_append_right (by rw [cellsKV_len, List.length_take]; omega), cellsKV_len, List.length_take, Nat.min_eq_left (by omega), Nat.add_sub_cancel_left]
theorem OwnK.spot {w : World} {B : Nat} {a : Option Addr} {n c : Nat} {l : List KV} (h : OwnK w B a n c l) : (a = none → c = 0) ∧ ∀ x, a = some x → x.spot = none := by
  rcases h.row.2 with ⟨hv, hn⟩ | ⟨g, c', cur, hv, _⟩
  · simp only [Value.slice.injEq] at hv
    obtain ⟨rfl, rfl, rfl⟩ := hv
    exact ⟨fun _ => rfl, fun x e => by cases e⟩
  · simp only [Value.slice.injEq, true_and] at hv
    obtain ⟨rfl, rfl⟩ := hv
    exact ⟨fun e => (by cases e), fun x e => by cases e; rfl⟩
end Go.Proofs.Ytfijibengmgegaa
/- Bytes appended to the call's own, and where the grown row lies; keys' bytes in memory of the call's own. -/
namespace Go.Proofs.Ytfijibengmgegaa
open Go.RowKit
set_option linter.unusedVariables false
set_option linter.unusedSimpArgs false
end Go.Proofs.Ytfijibengmgegaa
/- Parts of slices of bytes, cut at numbers without a sign. -/
namespace Go.Proofs.Ytfijibengmgegaa
open Go.RowKit
end Go.Proofs.Ytfijibengmgegaa
/- The contracts of bytes.Clone and bytes.Equal. -/
namespace Go.Proofs.Ytfijibengmgegaa
open Go.RowKit
set_option linter.unusedVariables false
set_option linter.unusedSimpArgs false
end Go.Proofs.Ytfijibengmgegaa
