/- Rows of entries in memory. -/
import Derived.Test.YtjoamhcehpjepabC11PlainA
import Derived.Test.YtjoamhcehpjepabQa01
import Derived.Deep.OwnRows
import Derived.BigQuiet
import Derived.Maps.AppendAt
import Derived.Handy
import Derived.Test.YtjoamhcehpjepabQa00
import Derived.Deep.Slices
import Derived.Deep.Strs
import Derived.ChangeSame
import Derived.SizedLaws
import Derived.WideShapes
namespace Go.Proofs.Ytjoamhcehpjepab
open Go.RowKit
set_option linter.unusedVariables false
set_option linter.unusedSimpArgs false
abbrev TKV : TypeId := 34
def kvc (e : KV) : List Value := [.string e.1.user, .int .u64 (e.1.seq : Int), .int .i64 e.1.kind, .string e.2]
def cellsKV (l : List KV) : List Value := l.flatMap kvc
theorem cellsKV_len : ∀ l : List KV, (cellsKV l).length = l.length * 4
  | [] => rfl
  | x :: r => by
    have := cellsKV_len r
    unfold cellsKV at this ⊢
    rw [List.flatMap_cons, List.length_append, this]
    simp [kvc]
    omega
theorem cellsKV_get : ∀ (l : List KV) (k i : Nat) (hk : k < l.length), i < 4 → (cellsKV l)[k * 4 + i]? = (kvc l[k])[i]?
  | x :: r, 0, i, _, hi => by
    unfold cellsKV
    rw [List.flatMap_cons, List.getElem?_append_left (by simp [kvc]; omega)]
    simp
  | x :: r, k + 1, i, hk, hi => by
    have := cellsKV_get r k i (by simpa using hk) hi
    unfold cellsKV at this ⊢
    rw [List.flatMap_cons, List.getElem?_append_right (by simp [kvc]; omega)]
    rw [show (k + 1) * 4 + i - (kvc x).length = k * 4 + i by simp [kvc]; omega, this]
    simp
/-- The slice value reads as keys with values. -/
structure KsAt (w : World) (a : Option Addr) (n c : Nat) (l : List KV) : Prop where
  size : l.length = n
  le : n ≤ c
  max : c ≤ maxLen
  here : 0 < n → ∃ b off, a = some ⟨b, off, none⟩ ∧ ∀ j, j < n * 4 → w.cell? ⟨b, off + j, none⟩ = (cellsKV l)[j]?
theorem KsAt.below {w w' : World} {a : Option Addr} {n c : Nat} {l : List KV} (h : KsAt w a n c l) (hb : Below w.heap.size w w') : KsAt w' a n c l := ⟨h.size, h.le, h.max, fun hp => by
  obtain ⟨b, off, ha, hc⟩ := h.here hp
  have hb0 : b < w.heap.size := by
    have h0 := hc 0 (by omega)
    have hz := h.size
    rw [List.getElem?_eq_getElem (by rw [cellsKV_len]; omega)] at h0
    exact World.block_lt_of_cell? w _ h0
  exact ⟨b, off, ha, fun j hj => by rw [hb.cell hb0]; exact hc j hj⟩⟩
theorem infoKV : (Try.prog.info? TKV).map (fun i => (i.zero, i.size, i.bytes)) = some (some (.agg #[.string ⟨#[]⟩, .int .u64 0, .int .i64 0, .string ⟨#[]⟩]), 4, 48) := by kernel_rfl
theorem made_kv (n : Nat) (hn : n ≤ 5864062014805) (w : World) : ∃ arr : Array Value, arr.size = n * 4 ∧ (Instr.makeSlice 30 (.int .i64 (n : Int)) (.int .i64 (n : Int))).run Try.prog w = .ok (.slice (some ⟨w.heap.size, 0, none⟩) n n) (w.alloc (.cells arr TKV)) := by
  obtain ⟨i, hi, hzz⟩ := Option.map_eq_some_iff.1 infoKV
  simp only [Prod.mk.injEq] at hzz
  obtain ⟨hz, hs, hb⟩ := hzz
  have hr := run_make (P := Try.prog) w 30 TKV i _ Try.underlying30 hi hz .i64 .i64 n n (by omega) (Int.le_refl _) (by rw [hb]; omega) (by omega)
  simp only [Int.toNat_natCast, hs] at hr
  exact ⟨_, by simp [madeCells], hr⟩
theorem setfour {arr : Array Value} {k : Nat} {x y z u : Value} (hs : k * 4 + 4 ≤ arr.size) (j : Nat) : ((((arr.setIfInBounds (k * 4) x).setIfInBounds (k * 4 + 1) y).setIfInBounds (k * 4 + 2) z).setIfInBounds (k * 4 + 3) u)[j]? = if j = k * 4 then some x else if j = k * 4 + 1 then some y else if j = k * 4 + 2 then some z else if j = k * 4 + 3 then some u else arr[j]? := by
  simp only [Array.getElem?_setIfInBounds, Array.size_setIfInBounds]
  repeat' split
  all_goals first | rfl | omega | simp_all
set_option maxRecDepth 100000 in
theorem idxKV (w : World) {a : Option Addr} {b off n c i : Nat} (ha : a = some ⟨b, off, none⟩) (hi : i < n) : (Instr.indexAt 30 (.slice a n c) (.int .i64 (i : Int))).run Try.prog w = .ok (.pointer (some ⟨b, off + i * 4, none⟩)) w := by
  subst ha
  have h1 : (0 : Int) ≤ (i : Int) ∧ (i : Int) < (n : Int) := by omega
  have hsz : (sizeOf (Try.prog.elem 30)).run Try.prog w = .ok 4 w := by kernel_rfl
  rw [run_indexAt_slice (P := Try.prog) (h := (by kernel_rfl : Try.prog.underlying 30 = some (.slice (Try.prog.elem 30)))), if_pos h1, hsz]
  simp [Result.andThen, Addr.add_lit]
theorem KsAt.cells4 {w : World} {a : Option Addr} {n c : Nat} {l : List KV} (h : KsAt w a n c l) (hp : 0 < n) : ∃ b off, a = some ⟨b, off, none⟩ ∧ ∀ k (hk : k < l.length), w.cell? ⟨b, off + k * 4, none⟩ = some (.string l[k].1.user) ∧ w.cell? ⟨b, off + k * 4 + 1, none⟩ = some (.int .u64 (l[k].1.seq : Int)) ∧ w.cell? ⟨b, off + k * 4 + 2, none⟩ = some (.int .i64 l[k].1.kind) ∧ w.cell? ⟨b, off + k * 4 + 3, none⟩ = some (.string l[k].2) := by
  obtain ⟨b, off, ha, hc⟩ := h.here hp
  have hs := h.size
  refine ⟨b, off, ha, fun k hk => ?_⟩
  have h0 := hc (k * 4 + 0) (by omega)
  have h1 := hc (k * 4 + 1) (by omega)
  have h2 := hc (k * 4 + 2) (by omega)
  have h3 := hc (k * 4 + 3) (by omega)
  rw [cellsKV_get l k _ hk (by omega)] at h0 h1 h2 h3
  simp only [Nat.add_zero, ← Nat.add_assoc] at h0 h1 h2 h3
  exact ⟨h0, h1, h2, h3⟩
theorem cellsKV_append (a b : List KV) : cellsKV (a ++ b) = cellsKV a ++ cellsKV b := by simp [cellsKV]
theorem KsAt.upTo {w : World} {a : Option Addr} {n c : Nat} {l : List KV} (h : KsAt w a n c l) {k : Nat} (hk : k ≤ n) : KsAt w a k c (l.take k) := by
  have hs := h.size
  refine ⟨by simp; omega, Nat.le_trans hk h.le, h.max, fun hp => ?_⟩
  obtain ⟨b, off, ha, hc⟩ := h.here (by omega)
  refine ⟨b, off, ha, fun j hj => ?_⟩
  rw [hc j (by omega)]
  have e : l = l.take k ++ l.drop k := (List.take_append_drop k l).symm
  conv => lhs; rw [e]
  rw [cellsKV_append, List.getElem?_append_left (by rw [cellsKV_len, List.length_take]; omega)]
theorem KsAt.drewN {w : World} {a : Option Addr} {n c : Nat} {l : List KV} (h : KsAt w a n c l) (d : Nat) : KsAt (w.drewN d) a n c l := ⟨h.size, h.le, h.max, h.here⟩
theorem cellsKV_one (l : List KV) : ∀ u ∈ cellsKV l, u.oneCell' = true := by
  intro u hu
  obtain ⟨e, _, he⟩ := List.mem_flatMap.1 hu
  simp [kvc] at he
  rcases he with rfl | rfl | rfl | rfl <;> rfl
theorem Below.drewM {B : Nat} {w w' : World} (h : Below B w w') (d : Nat) : Below B w (w'.drewN d) := ⟨h.os, h.tape, h.output, h.size, h.block⟩
theorem KsAt.nil (w : World) : KsAt w none 0 0 [] := ⟨rfl, Nat.le_refl _, Nat.zero_le _, fun h => absurd h (Nat.lt_irrefl _)⟩
/-- A row of entries of the call's own. -/
structure OwnK (w : World) (B : Nat) (a : Option Addr) (n c : Nat) (l : List KV) : Prop where
  size : l.length = n
  row : w.ownsRow B TKV 4 (.slice a n c) n (cellsKV l)
section
variable {w w' : World} {B : Nat} {a : Option Addr} {n c : Nat} {l : List KV}
theorem OwnK.ks (h : OwnK w B a n c l) : KsAt w a n c l := by
  obtain ⟨h1, h2, h3, h4⟩ := row_addr h.row
  have hs := h.size
  refine ⟨hs, h1, h2, fun hp => ?_⟩
  obtain ⟨g, rfl⟩ := h4 hp
  refine ⟨g, 0, rfl, fun j hj => ?_⟩
  rw [Nat.zero_add, h.row.cellAt j (by omega)]
theorem OwnK.nil (w : World) (B : Nat) : OwnK w B none 0 0 [] := ⟨rfl, World.ownsRow_nil _ _ _ 4⟩
theorem OwnK.below (h : OwnK w B a n c l) (hb : Below w.heap.size w w') : OwnK w' B a n c l := ⟨h.size, row_below h.row hb⟩
theorem OwnK.kept (h : OwnK w B a n c l) (hk : ∀ k, blkOf a = some k → w'.heap[k]? = w.heap[k]?) : OwnK w' B a n c l := ⟨h.size, row_same h.row (fun b e => hk b (by rw [← own_blk a n c]; exact e))⟩
theorem OwnK.tag (h : OwnK w B a n c l) {k : Nat} (hk : blkOf a = some k) : tag w k = some TKV := row_tag h.row (by rw [own_blk]; exact hk)
theorem OwnK.ge (h : OwnK w B a n c l) {k : Nat} (hk : blkOf a = some k) : B ≤ k := (h.row.lt k (by rw [own_blk]; exact hk)).1
theorem OwnK.less (h : OwnK w B a n c l) {B' : Nat} (hB : B' ≤ B) : OwnK w B' a n c l := by
  refine ⟨h.size, h.row.1, ?_⟩
  rcases h.row.2 with hn | ⟨g, c, cur, hv, hb, rest⟩
  · exact .inl hn
  · exact .inr ⟨g, c, cur, hv, Nat.le_trans hB hb, rest⟩
theorem OwnK.alloc (h : OwnK w B a n c l) (o : Obj) : OwnK (w.alloc o) B a n c l := ⟨h.size, h.row.alloc o⟩
end
theorem wpList_appK (w : World) {ops : Array Oper} {rest : List Oper} {o : Oper} {a : Act} {Q : Exit → Act → World → Prop} (hgd : o.guard = none) (s x : Operand)
    (ho : o.op = .call { callee := .builtin .append, args := #[s, x], argTypes := #[30, 30] })
    (B : Nat) (a1 : Option Addr) (n1 c1 : Nat) (l : List KV) (hs : a.eval s = .slice a1 n1 c1) (hown : OwnK w B a1 n1 c1 l)
    (a2 : Option Addr) (n2 c2 : Nat) (m : List KV) (hx : a.eval x = .slice a2 n2 c2) (hsrc : KsAt w a2 n2 c2 m) (hbare : a2 = none → c2 = 0)
    (hb : n1 + n2 ≤ 2000000000000) (hB : B ≤ w.heap.size)
    (h : ∀ a' c' w', OwnK w' B a' (n1 + n2) c' (l ++ m) → Below B w w' → w.grownBy w' (blkOf a1) → wpList Try.prog ops Q rest (a.put o.dst (.slice a' (n1 + n2) c')) w') :
    wpList Try.prog ops Q (o :: rest) a w := by
  have hm := hsrc.size
  have hl := hown.size
  refine wpList_appV w hgd s x _ TKV ho Try.underlying30 _ 4 48 infoKV rfl (by decide) B a1 n1 c1 _ hs hown.row a2 n2 c2 (cellsKV m) hx (fun e => ?_) (by rw [cellsKV_len, hm]) (fun ad e j u hu => ?_) (cellsKV_one m) (by unfold maxLen; omega) (by omega) hB (fun a' c' w' hr hb hg => h a' c' w' ⟨by rw [List.length_append]; omega, by rw [cellsKV_append]; exact hr⟩ hb hg)
  · have := hbare e
    have := hsrc.le
    omega
  · have hj : j < (cellsKV m).length := (List.getElem?_eq_some_iff.1 hu).1
    rw [cellsKV_len] at hj
    obtain ⟨b, off, he, hc⟩ := hsrc.here (by omega)
    rw [e] at he
    obtain rfl := Option.some.inj he
    rw [Addr.add_lit, hc j (by omega)]
    exact hu
theorem wpList_pushK (W : World) {ops : Array Oper} {rest : List Oper} {o : Oper} {a : Act} {Q : Exit → Act → World → Prop} (hgd : o.guard = none) (s x : Operand)
    (ho : o.op = .call { callee := .builtin .append, args := #[s, x], argTypes := #[30, 30] })
    (B : Nat) (a1 : Option Addr) (n1 c1 : Nat) (l : List KV) (hs : a.eval s = .slice a1 n1 c1) (hown : OwnK W B a1 n1 c1 l)
    (v : KV) (cv : Array Value) (hcv : cv.toList = kvc v) (hx : a.eval x = .slice (some ⟨W.heap.size, 0, none⟩) 1 1)
    (hb : n1 + 1 ≤ 2000000000000) (hB : B ≤ W.heap.size)
    (h : ∀ a' c' w', OwnK w' B a' (n1 + 1) c' (l ++ [v]) → Below B W w' → (W.alloc (.cells cv TKV)).grownBy w' (blkOf a1) → wpList Try.prog ops Q rest (a.put o.dst (.slice a' (n1 + 1) c')) w') :
    wpList Try.prog ops Q (o :: rest) a (W.alloc (.cells cv TKV)) := by
  have hk : KsAt (W.alloc (.cells cv TKV)) (some ⟨W.heap.size, 0, none⟩) 1 1 [v] := by
    refine ⟨rfl, Nat.le_refl _, by unfold maxLen; omega, fun _ => ⟨W.heap.size, 0, rfl, fun j hj => ?_⟩⟩
    rw [Nat.zero_add, (Box.new W TKV cv).cell, ← Array.getElem?_toList, hcv]
    simp [cellsKV]
  refine wpList_appK _ hgd s x ho B a1 n1 c1 l hs (hown.alloc _) _ 1 1 [v] hx hk (by simp) hb (by simp; omega) ?_
  intro a' c' w' h1 h2 h3
  exact h a' c' w' h1 (((Below.refl _ _).alloc hB _).trans h2) h3
end Go.Proofs.Ytjoamhcehpjepab
/- Parts of rows of entries. -/
namespace Go.Proofs.Ytjoamhcehpjepab
open Go.RowKit
set_option linter.unusedVariables false
set_option linter.unusedSimpArgs false
set_option maxRecDepth 100000 in
theorem ks_from {w0 : World} {l0 : List KV} {a : Option Addr} {n c : Nat} (h : KsAt w0 a n c l0) (hbare : a = none → c = 0) (hspot : ∀ x, a = some x → x.spot = none) (k : Nat) (hk : k ≤ n) :
    ∃ a', (∀ W : World, (Instr.slice 30 (.slice a n c) (some (.int .i64 (k : Int))) none none).run Try.prog W = .ok (.slice a' (n - k) (c - k)) W) ∧
      (∀ (W : World) (l : List KV), KsAt W a n c l → KsAt W a' (n - k) (c - k) (l.drop k)) ∧ (a' = none → c - k = 0) ∧ (∀ x, a' = some x → x.spot = none) := by
  have hle := h.le
  have hmx := h.max
  have hz : ∀ W, (sizeOf (Try.prog.elem 30)).run Try.prog W = .ok 4 W := fun W => by kernel_rfl
  cases a with
  | none =>
    have := hbare rfl
    obtain rfl : k = 0 := by omega
    obtain rfl : n = 0 := by omega
    obtain rfl : c = 0 := by omega
    refine ⟨none, fun W => ?_, fun W l hl => ?_, fun _ => rfl, fun x e => by cases e⟩
    · simp [Instr.slice, run_underlying Try.underlying30, go_sem]
    · simpa using hl
  | some ad =>
    obtain ⟨b, off, sp⟩ := ad
    obtain rfl : sp = none := hspot _ rfl
    by_cases h0 : c - k = 0
    · refine ⟨some ⟨b, off, none⟩, fun W => ?_, fun W l hl => ?_, fun e => (by cases e), fun x e => (by cases e; rfl)⟩
      · simp [Instr.slice, run_underlying Try.underlying30, go_sem]
        rw [if_pos hk, if_pos (by omega)]
      · have hs := hl.size
        obtain rfl : k = n := by omega
        rw [Nat.sub_self, List.drop_eq_nil_of_le (by omega)]
        exact ⟨rfl, Nat.zero_le _, by omega, fun h => absurd h (Nat.lt_irrefl _)⟩
    · refine ⟨some ⟨b, off + k * 4, none⟩, fun W => ?_, fun W l hl => ?_, fun e => (by cases e), fun x e => (by cases e; rfl)⟩
      · have hz2 := hz W
        simp [Instr.slice, run_underlying Try.underlying30, go_sem, hz2]
        rw [if_pos hk, if_neg (by omega)]
      · have hs := hl.size
        refine ⟨by simp; omega, by omega, by omega, fun hp => ⟨b, off + k * 4, rfl, fun j hj => ?_⟩⟩
        obtain ⟨b', o', he, hc⟩ := hl.here (by omega)
        simp only [Option.some.injEq, Addr.mk.injEq, and_true] at he
        obtain ⟨rfl, rfl⟩ := he
        rw [Nat.add_assoc, hc (k * 4 + j) (by omega)]
        conv => lhs; rw [← List.take_append_drop k l, cellsKV_append]
        rw [List.getElem?_append_right (by rw [cellsKV_len, List.length_take]; omega), cellsKV_len, List.length_take, Nat.min_eq_left (by omega), Nat.add_sub_cancel_left]
theorem OwnK.spot {w : World} {B : Nat} {a : Option Addr} {n c : Nat} {l : List KV} (h : OwnK w B a n c l) : (a = none → c = 0) ∧ ∀ x, a = some x → x.spot = none := by
  rcases h.row.2 with ⟨hv, hn⟩ | ⟨g, c', cur, hv, _⟩
  · simp only [Value.slice.injEq] at hv
    obtain ⟨rfl, rfl, rfl⟩ := hv
    exact ⟨fun _ => rfl, fun x e => by cases e⟩
  · simp only [Value.slice.injEq, true_and] at hv
    obtain ⟨rfl, rfl⟩ := hv
    exact ⟨fun e => (by cases e), fun x e => by cases e; rfl⟩
end Go.Proofs.Ytjoamhcehpjepab
/- Bytes appended to the call's own, and where the grown row lies; keys' bytes in memory of the call's own. -/
namespace Go.Proofs.Ytjoamhcehpjepab
open Go.RowKit
set_option linter.unusedVariables false
set_option linter.unusedSimpArgs false
end Go.Proofs.Ytjoamhcehpjepab
/- Parts of slices of bytes, cut at numbers without a sign. -/
namespace Go.Proofs.Ytjoamhcehpjepab
open Go.RowKit
end Go.Proofs.Ytjoamhcehpjepab
/- The contracts of bytes.Clone and bytes.Equal. -/
namespace Go.Proofs.Ytjoamhcehpjepab
open Go.RowKit
set_option linter.unusedVariables false
set_option linter.unusedSimpArgs false
end Go.Proofs.Ytjoamhcehpjepab
/- Lists of entries as arguments: what a reading of one gives. -/
namespace Go.Proofs.Ytjoamhcehpjepab
set_option maxRecDepth 100000
open Go.ChangeShapes Go.WideShapes Go.RowKit
set_option linter.unusedVariables false
set_option linter.unusedSimpArgs false
theorem collect {α : Type} (P : Nat → α → Prop) : ∀ len : Nat, (∀ i, i < len → ∃ o, P i o) → ∃ l : List α, l.length = len ∧ ∀ i (hi : i < l.length), P i l[i]
  | 0, _ => ⟨[], rfl, fun i hi => absurd hi (Nat.not_lt_zero _)⟩
  | len + 1, h => by
    obtain ⟨l, hl, hall⟩ := collect P len fun i hi => h i (by omega)
    obtain ⟨o, ho⟩ := h len (by omega)
    refine ⟨l ++ [o], by simp [hl], fun i hi => ?_⟩
    by_cases hi' : i < l.length
    · rw [List.getElem_append_left hi']
      exact hall i hi'
    · have e : i = l.length := by simp at hi; omega
      subst e
      rw [List.getElem_append_right (Nat.le_refl _)]
      simp only [Nat.sub_self, List.getElem_cons_zero]
      rw [hl]
      exact ho
theorem cells_kv : Try.prog.cellsOf TKV = 4 := by kernel_rfl
theorem cells_ik : Try.prog.cellsOf 32 = 3 := by kernel_rfl
theorem cells_s1 : Try.prog.cellsOf 9 = 1 := by kernel_rfl
theorem cells_u1 : Try.prog.cellsOf 23 = 1 := by kernel_rfl
theorem cells_i1 : Try.prog.cellsOf 3 = 1 := by kernel_rfl
/-- An entry that came in. -/
structure RawOk (e : KV) : Prop where
  key : e.1.user.size ≤ maxLen
  val : e.2.size ≤ 9223372036854775807
/-- A slice that came in: bare or at no spot. -/
theorem slice_spot {t e : TypeId} {w : World} {r : Reach} {base : Nat} {a : Option Addr} {n c : Nat} (ht : Try.prog.underlying t = some (.slice e)) (h : Value.okWide Try.prog w r base t (.slice a n c)) : (a = none → c = 0) ∧ ∀ x, a = some x → x.spot = none := by
  simp only [Value.okWide, ht, Cell.okWide, Cell.ok] at h
  cases a with
  | none =>
    refine ⟨fun _ => ?_, fun x e => by cases e⟩
    cases c with
    | zero => rfl
    | succ c => cases n <;> simp at h
  | some x =>
    refine ⟨fun e => (by cases e), fun y e => ?_⟩
    cases e
    exact h.2.2.2.1
section
variable {H : Type} {enc : TypeId × Value → H} {w : World} {base : Nat} {sp : Nat → Bool} {held : Bool}
set_option maxRecDepth 100000 in
theorem open_ik {n : Nat} {cs : List Value} {y : DataW H × List MemPlace} (h : DataW.trod enc Try.prog w base sp held n 32 cs = some y) :
    ∃ k : IK, cs = [.string k.user, .int .u64 (k.seq : Int), .int .i64 k.kind] ∧ k.user.size ≤ maxLen ∧ y.1 = .agg [.lit (.string k.user.data.toList), .lit (.int .u64 (k.seq : Int)), .lit (.int .i64 k.kind)] := by
  obtain ⟨y0, y1, y2, m, rfl, hl, h0, h1, h2⟩ := Go.Deep.trod_struct3 Try.underlying32 h
  rw [cells_ik] at hl
  match cs, hl with
  | [c0, c1, c2], _ =>
  obtain ⟨s, e0, rfl, ws⟩ := DataW.trod_string Try.underlying9 h0
  obtain ⟨q, e1, rfl, wq⟩ := DataW.trod_int Try.underlying23 h1
  obtain ⟨k, e2, rfl, wk⟩ := DataW.trod_int Try.underlying3 h2
  simp [cells_s1, cells_u1, cells_i1] at e0 e1 e2
  subst e0 e1 e2
  have hq : q = ((q.toNat : Nat) : Int) := by
    simp [Lit.wf, IntKind.min, IntKind.max, IntKind.bits, IntKind.signed] at wq
    omega
  refine ⟨⟨s, q.toNat, k⟩, by rw [← hq], ws, by rw [← hq]⟩
set_option maxRecDepth 100000 in
theorem open_kv {n : Nat} {cs : List Value} {y : DataW H × List MemPlace} (h : DataW.trod enc Try.prog w base sp held n TKV cs = some y) :
    ∃ e : KV, cs = kvc e ∧ RawOk e := by
  obtain ⟨y0, y1, m, _, hl, h0, h1⟩ := trod_struct2 Try.underlying34 h
  rw [cells_kv] at hl
  match cs, hl with
  | [c0, c1, c2, c3], _ =>
  simp [cells_ik, cells_s1] at h0 h1
  obtain ⟨k, e0, hk, _⟩ := open_ik h0
  obtain ⟨s, e1, _, ws⟩ := DataW.trod_string Try.underlying9 h1
  simp at e0 e1
  obtain ⟨rfl, rfl, rfl⟩ := e0
  subst e1
  unfold maxLen at ws
  exact ⟨(k, s), rfl, hk, by omega⟩
theorem open_kvs {fuel : Nat} {cs : List Value} {x : DataW H × List MemPlace} (h : DataW.trod enc Try.prog w base sp held fuel 30 cs = some x) :
    ∃ (a : Option Addr) (len cap : Nat) (l : List KV), cs = [.slice a len cap] ∧ KsAt w a len cap l ∧ (∀ e ∈ l, RawOk e) ∧ (x.1 = .nil ∧ len = 0 ∨ ∃ es ss, x.1 = .slice es ss ∧ es.length = len) := by
  rcases Go.Deep.open_slice Try.underlying30 h with ⟨h0, rfl⟩ | ⟨a, len, cap, m, n, D, Pl, rfl, hb, hl, hm, hmm, rfl, hx⟩
  · exact ⟨none, 0, 0, [], h0, KsAt.nil w, by simp, .inl ⟨rfl, rfl⟩⟩
  have hlm : len ≤ m := by rw [hmm]; split <;> omega
  obtain ⟨l, hll, hall⟩ := collect (fun i (e : KV) => (∀ r, r < 4 → w.cell? (a.add (i * 4 + r)) = (kvc e)[r]?) ∧ RawOk e) len (fun i hi => by
    obtain ⟨cs', h1, h2⟩ := hx i (by omega)
    have h1' : w.cells? base (a.add (i * 4)) 4 = some cs' := by
      rw [show Try.prog.cellsOf 34 = 4 from cells_kv] at h1
      exact h1
    obtain ⟨_, _, hcell⟩ := World.cells?_some h1'
    obtain ⟨e, rfl, he⟩ := open_kv h2
    refine ⟨e, fun r hr => ?_, he⟩
    have e0 := hcell r hr
    rw [Go.Deep.add_add] at e0
    rw [e0])
  refine ⟨some a, len, cap, l, rfl, ⟨hll, hl, hm, fun hp => ?_⟩, fun e he => ?_, .inr ⟨_, _, rfl, by simp⟩⟩
  · obtain ⟨b, off, spot⟩ := a
    have h0 := (hall 0 (by omega)).1 0 (by omega)
    have hspot : spot = none := by
      have : w.cell? ((⟨b, off, spot⟩ : Addr).add (0 * 4 + 0)) = some (.string (l[0]'(by omega)).1.user) := h0
      simpa [Addr.add] using World.cell?_spot this
    subst hspot
    refine ⟨b, off, rfl, fun j hj => ?_⟩
    have hd : j / 4 < l.length := by omega
    have hg := (hall (j / 4) hd).1 (j % 4) (by omega)
    rw [Addr.add_lit, show j / 4 * 4 + j % 4 = j by omega] at hg
    rw [hg, ← cellsKV_get l (j / 4) (j % 4) hd (by omega), show j / 4 * 4 + j % 4 = j by omega]
  · obtain ⟨i, hi, rfl⟩ := List.mem_iff_getElem.1 he
    exact (hall i hi).2
end
end Go.Proofs.Ytjoamhcehpjepab
/- Several lists as one, plainly: places in lists, which is ahead of which, cuts. -/
namespace Go.Proofs.Ytjoamhcehpjepab
set_option linter.unusedVariables false
abbrev KV16 := KV
def kvZ : KV16 := (⟨ByteArray.empty, 0, 0⟩, ByteArray.empty)
/-- A place: which list, and where in it. -/
abbrev PlL := Nat × Nat
def lenL (L : List (List KV16)) (i : Nat) : Nat := (L.getD i []).length
def entL (L : List (List KV16)) (p : PlL) : KV16 := (L.getD p.1 []).getD p.2 kvZ
def validL (L : List (List KV16)) (p : PlL) : Prop := p.2 < lenL L p.1
def cmpL (L : List (List KV16)) (p q : PlL) : Int := (entL L p).1.cmp (entL L q).1
/-- Is one place ahead of another: by key, and of like ones by the list. -/
def aheadL (L : List (List KV16)) (p q : PlL) : Prop := cmpL L p q < 0 ∨ (cmpL L p q = 0 ∧ p.1 < q.1)
instance (L : List (List KV16)) (p q : PlL) : Decidable (aheadL L p q) := inferInstanceAs (Decidable (_ ∨ _))
def RiseL (L : List (List KV16)) : Prop := ∀ l ∈ L, l.Pairwise fun a b => a.1.cmp b.1 < 0
theorem cmp_le_trans {a b c : IK} (h : a.cmp b ≤ 0) (k : b.cmp c ≤ 0) : a.cmp c ≤ 0 := (kcmp_row _ _ _ _ _ _ _ _ _).1 h k
theorem cmp_zero_left {a b c : IK} (h : a.cmp b = 0) : a.cmp c ≤ 0 ↔ b.cmp c ≤ 0 := by
  have h2 : b.cmp a ≤ 0 := by rw [IK.cmp_turn]; omega
  exact ⟨fun k => cmp_le_trans h2 k, fun k => cmp_le_trans (Int.le_of_eq h) k⟩
theorem cmp_lt_le {a b c : IK} (h : a.cmp b < 0) (k : b.cmp c ≤ 0) : a.cmp c < 0 := by
  have h1 := cmp_le_trans (Int.le_of_lt h) k
  by_cases h2 : a.cmp c = 0
  · have h3 : c.cmp a ≤ 0 := by rw [IK.cmp_turn]; omega
    have h4 := cmp_le_trans k h3
    rw [IK.cmp_turn] at h4
    omega
  · omega
theorem cmp_le_lt {a b c : IK} (h : a.cmp b ≤ 0) (k : b.cmp c < 0) : a.cmp c < 0 := by
  have h1 := cmp_le_trans h (Int.le_of_lt k)
  by_cases h2 : a.cmp c = 0
  · have h3 : c.cmp a ≤ 0 := by rw [IK.cmp_turn]; omega
    have h4 := cmp_le_trans h3 h
    rw [IK.cmp_turn] at h4
    omega
  · omega
section
variable {L : List (List KV16)} {p q r : PlL}
theorem cmpL_turn : cmpL L q p = -cmpL L p q := IK.cmp_turn _ _
theorem aheadL_trans (h : aheadL L p q) (k : aheadL L q r) : aheadL L p r := by
  rcases h with h | ⟨h, h'⟩ <;> rcases k with k | ⟨k, k'⟩
  · exact .inl (IK.cmp_trans h k)
  · exact .inl (cmp_lt_le h (Int.le_of_eq k))
  · exact .inl (cmp_le_lt (Int.le_of_eq h) k)
  · refine .inr ⟨?_, by omega⟩
    have h1 : cmpL L p r ≤ 0 := cmp_le_trans (Int.le_of_eq h) (Int.le_of_eq k)
    have h2 : cmpL L r p ≤ 0 := cmp_le_trans (show cmpL L r q ≤ 0 by rw [cmpL_turn]; omega) (show cmpL L q p ≤ 0 by rw [cmpL_turn]; omega)
    rw [cmpL_turn] at h2
    omega
theorem ahead_not (h : aheadL L p q) : ¬ aheadL L q p := fun k => by
  rcases h with h | ⟨h, h'⟩ <;> rcases k with k | ⟨k, k'⟩ <;> rw [cmpL_turn] at k <;> omega
theorem ahead_irrefl : ¬ aheadL L p p := fun h => ahead_not h h
theorem rise_ahead (hL : RiseL L) {i j k : Nat} (hjk : j < k) (hk : k < lenL L i) : cmpL L (i, j) (i, k) < 0 := by
  have hi : i < L.length := by
    apply Classical.byContradiction
    intro hi
    have : lenL L i = 0 := by unfold lenL; rw [List.getD_eq_getElem?_getD, List.getElem?_eq_none (by omega)]; rfl
    omega
  have e : L.getD i [] = L[i] := by simp [List.getD, hi]
  have hp := hL L[i] (List.getElem_mem hi)
  unfold lenL at hk
  unfold cmpL entL
  dsimp only
  rw [e] at hk ⊢
  have := List.pairwise_iff_getElem.1 hp j k (by omega) hk hjk
  simpa [List.getD, hk, show j < L[i].length by omega] using this
theorem ahead_same (hL : RiseL L) {i j k : Nat} (hk : k < lenL L i) (h : aheadL L (i, j) (i, k)) (hj : j < lenL L i) : j < k := by
  apply Classical.byContradiction
  intro hn
  rcases h with h | ⟨_, h⟩
  · by_cases e : j = k
    · subst e
      have := IK.cmp_self (entL L (i, j)).1
      unfold cmpL at h
      omega
    · have := rise_ahead hL (show k < j by omega) hj
      rw [cmpL_turn] at this
      omega
  · exact absurd h (Nat.lt_irrefl _)
theorem ahead_total (hL : RiseL L) (hp : validL L p) (hq : validL L q) : p = q ∨ aheadL L p q ∨ aheadL L q p := by
  obtain ⟨i, j⟩ := p
  obtain ⟨i', j'⟩ := q
  by_cases h : i = i'
  · subst h
    by_cases e : j = j'
    · exact .inl (by rw [e])
    · by_cases hlt : j < j'
      · exact .inr (.inl (.inl (rise_ahead hL hlt hq)))
      · exact .inr (.inr (.inl (rise_ahead hL (by omega) hp)))
  · by_cases h1 : cmpL L (i, j) (i', j') < 0
    · exact .inr (.inl (.inl h1))
    · by_cases h2 : cmpL L (i, j) (i', j') = 0
      · by_cases h3 : i < i'
        · exact .inr (.inl (.inr ⟨h2, h3⟩))
        · exact .inr (.inr (.inr ⟨by rw [cmpL_turn]; omega, by show i' < i; omega⟩))
      · exact .inr (.inr (.inl (by rw [cmpL_turn]; omega)))
end
/-- All places, and all of them in order. -/
def places (L : List (List KV16)) : List PlL := (List.range L.length).flatMap fun i => (List.range (lenL L i)).map fun j => (i, j)
def leL (L : List (List KV16)) (p q : PlL) : Bool := decide (¬ aheadL L q p)
def allP (L : List (List KV16)) : List PlL := (places L).mergeSort (leL L)
def allL (L : List (List KV16)) : List KV16 := (allP L).map (entL L)
theorem lenL_out {L : List (List KV16)} {i : Nat} (h : L.length ≤ i) : lenL L i = 0 := by
  unfold lenL
  rw [List.getD_eq_getElem?_getD, List.getElem?_eq_none h]
  rfl
theorem mem_places {L : List (List KV16)} {p : PlL} : p ∈ places L ↔ validL L p := by
  obtain ⟨i, j⟩ := p
  unfold places validL
  simp only [List.mem_flatMap, List.mem_range, List.mem_map, Prod.mk.injEq]
  constructor
  · rintro ⟨i', hi, j', hj, rfl, rfl⟩
    exact hj
  · intro h
    refine ⟨i, ?_, j, h, rfl, rfl⟩
    apply Classical.byContradiction
    intro hi
    have := lenL_out (L := L) (i := i) (by omega)
    have h' : j < lenL L i := h
    omega
theorem nodup_places (L : List (List KV16)) : (places L).Nodup := by
  have key : ∀ n, ((List.range n).flatMap fun i => (List.range (lenL L i)).map fun j => ((i, j) : PlL)).Nodup := fun n => by
    induction n with
    | zero => simp
    | succ n ih =>
      rw [List.range_succ, List.flatMap_append]
      simp only [List.flatMap_cons, List.flatMap_nil, List.append_nil]
      refine List.nodup_append.2 ⟨ih, ?_, ?_⟩
      · refine List.Pairwise.map _ (fun a b h e => h ?_) List.nodup_range
        simpa using e
      · intro a ha b hb e
        simp only [List.mem_flatMap, List.mem_range, List.mem_map] at ha hb
        obtain ⟨i, hi, j, _, rfl⟩ := ha
        obtain ⟨j', _, rfl⟩ := hb
        simp only [Prod.mk.injEq] at e
        omega
  exact key _
theorem leL_trans (L : List (List KV16)) (p q r : PlL) (h : leL L p q = true) (k : leL L q r = true) : leL L p r = true := by
  unfold leL at *
  simp only [decide_eq_true_eq] at *
  intro hr
  unfold aheadL at *
  have h1 : ¬ cmpL L q p < 0 := fun x => h (.inl x)
  have h2 : ¬ cmpL L r q < 0 := fun x => k (.inl x)
  have h3 : cmpL L p q ≤ 0 := by rw [cmpL_turn]; omega
  have h4 : cmpL L q r ≤ 0 := by rw [cmpL_turn]; omega
  have h5 : cmpL L p r ≤ 0 := cmp_le_trans h3 h4
  have h6 : cmpL L r p = -cmpL L p r := cmpL_turn
  rcases hr with hr | ⟨hr, hi⟩
  · omega
  · -- all three are alike
    have h7 : cmpL L r p ≤ 0 := by omega
    have h8 : cmpL L q p ≤ 0 := cmp_le_trans h4 h7
    have h9 : cmpL L r q ≤ 0 := cmp_le_trans h7 h3
    have e1 : cmpL L q p = 0 := by omega
    have e2 : cmpL L r q = 0 := by omega
    have i1 : ¬ q.1 < p.1 := fun x => h (.inr ⟨e1, x⟩)
    have i2 : ¬ r.1 < q.1 := fun x => k (.inr ⟨e2, x⟩)
    omega
theorem leL_total (L : List (List KV16)) (p q : PlL) : (leL L p q || leL L q p) = true := by
  unfold leL
  by_cases h : aheadL L q p
  · have := ahead_not h
    simp [h, this]
  · simp [h]
theorem perm_all (L : List (List KV16)) : (allP L).Perm (places L) := List.mergeSort_perm _ _
theorem mem_allP {L : List (List KV16)} {p : PlL} : p ∈ allP L ↔ validL L p := (perm_all L).mem_iff.trans mem_places
theorem all_rises {L : List (List KV16)} (hL : RiseL L) : (allP L).Pairwise (aheadL L) := by
  have h1 : (allP L).Pairwise fun p q => leL L p q = true := List.pairwise_mergeSort (leL_trans L) (leL_total L) _
  have h2 : (allP L).Nodup := (perm_all L).nodup_iff.2 (nodup_places L)
  have h3 := List.Pairwise.and h1 h2
  refine h3.imp_of_mem fun {p q} hp hq h => ?_
  obtain ⟨h4, h5⟩ := h
  unfold leL at h4
  simp only [decide_eq_true_eq] at h4
  rcases ahead_total hL (mem_allP.1 hp) (mem_allP.1 hq) with e | e | e
  · exact absurd e h5
  · exact e
  · exact absurd e h4
/-- So many of each list, and none that is left is ahead of one of them. -/
structure CutL (L : List (List KV16)) (v : Nat → Nat) : Prop where
  le : ∀ i, v i ≤ lenL L i
  ord : ∀ i j i' j', j < v i → v i' ≤ j' → j' < lenL L i' → aheadL L (i, j) (i', j')
def sumV (v : Nat → Nat) : Nat → Nat
  | 0 => 0
  | n + 1 => sumV v n + v n
theorem cut_zero (L : List (List KV16)) : CutL L fun _ => 0 := ⟨fun _ => Nat.zero_le _, fun _ _ _ _ h => absurd h (Nat.not_lt_zero _)⟩
theorem cutL_all (L : List (List KV16)) : CutL L (lenL L) := ⟨fun _ => Nat.le_refl _, fun _ _ _ _ _ h k => absurd k (by omega)⟩
def inV (v : Nat → Nat) (p : PlL) : Bool := decide (p.2 < v p.1)
theorem count_in (L : List (List KV16)) {v : Nat → Nat} (h : ∀ i, v i ≤ lenL L i) : ((places L).filter (inV v)).length = sumV v L.length := by
  have key : ∀ n, (((List.range n).flatMap fun i => (List.range (lenL L i)).map fun j => ((i, j) : PlL)).filter (inV v)).length = sumV v n := fun n => by
    induction n with
    | zero => rfl
    | succ n ih =>
      rw [List.range_succ, List.flatMap_append, List.filter_append, List.length_append, ih]
      simp only [List.flatMap_cons, List.flatMap_nil, List.append_nil]
      show sumV v n + _ = sumV v n + v n
      congr 1
      rw [List.filter_map, List.length_map]
      have h1 : ∀ m k, k ≤ m → ((List.range m).filter (inV v ∘ fun j => ((n, j) : PlL))).length = min m (v n) := fun m => by
        induction m with
        | zero => intro k _; simp
        | succ m ihm =>
          intro k _
          rw [List.range_succ, List.filter_append, List.length_append, ihm m (Nat.le_refl _)]
          by_cases hm : m < v n
          · simp [List.filter, inV, hm]
            omega
          · simp [List.filter, inV, hm]
            omega
      rw [h1 _ _ (Nat.le_refl _)]
      have := h n
      omega
  exact key _
/-- In order, all that a cut takes stand ahead of all others. -/
theorem split_sorted {α : Type} {r : α → α → Prop} (P : α → Bool) : ∀ (l : List α), l.Pairwise r → (∀ a b, a ∈ l → b ∈ l → P a = false → P b = true → ¬ r a b) → l = l.filter P ++ l.filter fun x => !P x
  | [], _, _ => rfl
  | a :: l, h, hs => by
    obtain ⟨h1, h2⟩ := List.pairwise_cons.1 h
    have ih := split_sorted P l h2 fun x y hx hy => hs x y (by simp [hx]) (by simp [hy])
    cases e : P a with
    | true =>
      rw [List.filter_cons_of_pos e, List.filter_cons_of_neg (by simp [e])]
      show a :: l = a :: (l.filter P ++ _)
      rw [← ih]
    | false =>
      have hnone : l.filter P = [] := by
        refine List.filter_eq_nil_iff.2 fun b hb hP => ?_
        exact hs a b (by simp) (by simp [hb]) e hP (h1 b hb)
      have hall : l.filter (fun x => !P x) = l := by
        refine List.filter_eq_self.2 fun b hb => ?_
        cases eb : P b with
        | false => rfl
        | true => exact absurd (h1 b hb) (hs a b (by simp) (by simp [hb]) e eb)
      rw [List.filter_cons_of_neg (by simp [e]), List.filter_cons_of_pos (by simp [e]), hnone, hall]
      rfl
theorem cut_split {L : List (List KV16)} (hL : RiseL L) {v : Nat → Nat} (h : CutL L v) : allP L = (allP L).filter (inV v) ++ (allP L).filter fun p => !inV v p := by
  refine split_sorted (r := aheadL L) _ _ (all_rises hL) fun a b ha hb h1 h2 => ?_
  unfold inV at h1 h2
  simp only [decide_eq_false_iff_not, decide_eq_true_eq] at h1 h2
  have := h.ord b.1 b.2 a.1 a.2 h2 (by omega) (mem_allP.1 ha)
  exact ahead_not this
theorem cut_len {L : List (List KV16)} {v : Nat → Nat} (h : ∀ i, v i ≤ lenL L i) : ((allP L).filter (inV v)).length = sumV v L.length := by
  rw [← count_in L h]
  exact ((perm_all L).filter _).length_eq
/-- What stands where a cut is: the first of the heads. -/
theorem cut_next {L : List (List KV16)} (hL : RiseL L) {v : Nat → Nat} (h : CutL L v) {b : Nat} (hb : v b < lenL L b) (hmin : ∀ i, v i < lenL L i → i ≠ b → aheadL L (b, v b) (i, v i)) :
    (allP L)[sumV v L.length]? = some (b, v b) ∧ CutL L fun i => if i = b then v b + 1 else v i := by
  have hcut : CutL L fun i => if i = b then v b + 1 else v i := by
    refine ⟨fun i => ?_, fun i j i' j' h1 h2 h3 => ?_⟩
    · by_cases e : i = b
      · subst e; rw [if_pos rfl]; omega
      · rw [if_neg e]; exact h.le i
    · -- (i', j') is left behind (b, v b)
      have hleft : v i' ≤ j' := by
        by_cases e : i' = b
        · subst e; rw [if_pos rfl] at h2; omega
        · rw [if_neg e] at h2; exact h2
      have hbl : (i', j') ≠ (b, v b) := fun e => by
        simp only [Prod.mk.injEq] at e
        obtain ⟨rfl, rfl⟩ := e
        rw [if_pos rfl] at h2
        omega
      have hnew : aheadL L (b, v b) (i', j') := by
        by_cases e : i' = b
        · subst e
          rw [if_pos rfl] at h2
          exact .inl (rise_ahead hL (by omega) h3)
        · have h4 := hmin i' (by omega) e
          by_cases e2 : v i' = j'
          · rw [← e2]; exact h4
          · exact aheadL_trans h4 (.inl (rise_ahead hL (by omega) h3))
      by_cases e : i = b
      · subst e
        rw [if_pos rfl] at h1
        by_cases e2 : j = v i
        · subst e2; exact hnew
        · exact h.ord i j i' j' (by omega) hleft h3
      · rw [if_neg e] at h1
        exact h.ord i j i' j' h1 hleft h3
  refine ⟨?_, hcut⟩
  have hs := cut_split hL h
  have hl := cut_len (L := L) h.le
  rw [hs, List.getElem?_append_right (by omega), hl, Nat.sub_self]
  -- the first of those that are left
  have hmem : (b, v b) ∈ (allP L).filter fun p => !inV v p := List.mem_filter.2 ⟨mem_allP.2 hb, by simp [inV]⟩
  have hr : ((allP L).filter fun p => !inV v p).Pairwise (aheadL L) := (all_rises hL).filter _
  cases e : (allP L).filter fun p => !inV v p with
  | nil => rw [e] at hmem; cases hmem
  | cons a r =>
    rw [e] at hmem hr
    rcases List.mem_cons.1 hmem with hm | hm
    · rw [hm]; rfl
    · have h1 := (List.pairwise_cons.1 hr).1 _ hm
      have ha : a ∈ (allP L).filter fun p => !inV v p := by rw [e]; simp
      obtain ⟨ha1, ha2⟩ := List.mem_filter.1 ha
      have hav : validL L a := mem_allP.1 ha1
      have hal : v a.1 ≤ a.2 := by simpa [inV] using ha2
      exfalso
      by_cases e2 : a.1 = b
      · have h3 : (a.1, a.2) = a := rfl
        have h4 : aheadL L (b, a.2) (b, v b) := by rw [← e2] at h1 ⊢; exact h1
        have := ahead_same hL hb h4 (by rw [← e2]; exact hav)
        rw [e2] at hal
        omega
      · have h2 := hmin a.1 (Nat.lt_of_le_of_lt hal hav) e2
        have h5 : aheadL L (b, v b) a := by
          by_cases e3 : v a.1 = a.2
          · have : (a.1, v a.1) = a := by rw [e3]
            rw [← this]; exact h2
          · exact aheadL_trans h2 (.inl (rise_ahead hL (j := v a.1) (k := a.2) (by omega) hav))
        exact ahead_not h5 h1
theorem sum_upd (v : Nat → Nat) (b : Nat) : ∀ n, b < n → sumV (fun i => if i = b then v b + 1 else v i) n = sumV v n + 1
  | 0, h => absurd h (Nat.not_lt_zero _)
  | n + 1, h => by
    have same : ∀ m, m ≤ b → sumV (fun i => if i = b then v b + 1 else v i) m = sumV v m := fun m => by
      induction m with
      | zero => exact fun _ => rfl
      | succ m ih =>
        intro hm
        show sumV _ m + (if m = b then v b + 1 else v m) = sumV v m + v m
        rw [ih (by omega), if_neg (by omega)]
    show sumV _ n + (if n = b then v b + 1 else v n) = sumV v n + v n + 1
    by_cases e : n = b
    · subst e
      rw [if_pos rfl, same n (Nat.le_refl _)]
      omega
    · rw [if_neg e, sum_upd v b n (by omega)]
      omega
/-- A cut by a key. -/
theorem cut_seek {L : List (List KV16)} (hL : RiseL L) (k : IK) {v : Nat → Nat} (hv : ∀ i, v i ≤ lenL L i) (h1 : ∀ i j, j < v i → (entL L (i, j)).1.cmp k < 0) (h2 : ∀ i j, v i ≤ j → j < lenL L i → 0 ≤ (entL L (i, j)).1.cmp k) : CutL L v :=
  ⟨hv, fun i j i' j' ha hb hc => .inl (cmp_lt_le (h1 i j ha) (show k.cmp (entL L (i', j')).1 ≤ 0 by rw [IK.cmp_turn]; have := h2 i' j' hb hc; omega))⟩
/-- A cut that is not empty: its last place is the greatest of the tails. -/
theorem cut_prev {L : List (List KV16)} (hL : RiseL L) {v : Nat → Nat} (h : CutL L v) {b : Nat} (hb : 0 < v b) (hmax : ∀ i, 0 < v i → i ≠ b → aheadL L (i, v i - 1) (b, v b - 1)) :
    CutL L (fun i => if i = b then v b - 1 else v i) ∧ (allP L)[sumV (fun i => if i = b then v b - 1 else v i) L.length]? = some (b, v b - 1) := by
  have hcut : CutL L fun i => if i = b then v b - 1 else v i := by
    refine ⟨fun i => ?_, fun i j i' j' h1 h2 h3 => ?_⟩
    · by_cases e : i = b
      · subst e; rw [if_pos rfl]; have := h.le i; omega
      · rw [if_neg e]; exact h.le i
    · by_cases hl : v i' ≤ j'
      · refine h.ord i j i' j' ?_ hl h3
        by_cases e : i = b
        · subst e; rw [if_pos rfl] at h1; omega
        · rw [if_neg e] at h1; exact h1
      · -- (i', j') is (b, v b - 1)
        have e : i' = b := by
          apply Classical.byContradiction
          intro e
          rw [if_neg e] at h2
          omega
        subst e
        rw [if_pos rfl] at h2
        have e2 : j' = v i' - 1 := by omega
        subst e2
        by_cases e : i = i'
        · subst e
          rw [if_pos rfl] at h1
          exact .inl (rise_ahead hL h1 h3)
        · rw [if_neg e] at h1
          have h4 := hmax i (by omega) e
          by_cases e3 : j = v i - 1
          · subst e3; exact h4
          · exact aheadL_trans (.inl (rise_ahead hL (show j < v i - 1 by omega) (by have := h.le i; omega))) h4
  refine ⟨hcut, ?_⟩
  have hbl : v b - 1 < lenL L b := by have := h.le b; omega
  have hn := cut_next hL hcut (b := b) (by rw [if_pos rfl]; exact hbl) (fun i hi hne => by
    rw [if_pos rfl]
    rw [if_neg hne] at hi ⊢
    exact h.ord b (v b - 1) i (v i) (by omega) (Nat.le_refl _) hi)
  have h1 := hn.1
  rw [if_pos rfl] at h1
  exact h1
/-- The first of the heads of the first n lists. -/
def bestP (L : List (List KV16)) (v : Nat → Nat) : Nat → Option Nat
  | 0 => none
  | n + 1 => match bestP L v n with
    | none => if v n < lenL L n then some n else none
    | some b => if v n < lenL L n ∧ cmpL L (n, v n) (b, v b) < 0 then some n else some b
theorem best_some {L : List (List KV16)} {v : Nat → Nat} : ∀ {n b : Nat}, bestP L v n = some b → b < n ∧ v b < lenL L b ∧ ∀ i, i < n → v i < lenL L i → i ≠ b → aheadL L (b, v b) (i, v i)
  | 0, b, h => by cases h
  | n + 1, b, h => by
    unfold bestP at h
    cases e : bestP L v n with
    | none =>
      rw [e] at h
      dsimp only at h
      by_cases hn : v n < lenL L n
      · rw [if_pos hn] at h
        obtain rfl := Option.some.inj h
        refine ⟨Nat.lt_succ_self _, hn, fun i hi hv hne => ?_⟩
        exact absurd hv (Nat.not_lt.2 (best_none e i (by omega)))
      · rw [if_neg hn] at h
        cases h
    | some a =>
      rw [e] at h
      dsimp only at h
      obtain ⟨h1, h2, h3⟩ := best_some e
      by_cases hn : v n < lenL L n ∧ cmpL L (n, v n) (a, v a) < 0
      · rw [if_pos hn] at h
        obtain rfl := Option.some.inj h
        refine ⟨Nat.lt_succ_self _, hn.1, fun i hi hv hne => ?_⟩
        by_cases ea : i = a
        · subst ea; exact .inl hn.2
        · exact aheadL_trans (.inl hn.2) (h3 i (by omega) hv ea)
      · rw [if_neg hn] at h
        obtain rfl := Option.some.inj h
        refine ⟨by omega, h2, fun i hi hv hne => ?_⟩
        by_cases en : i = n
        · subst en
          have hc : ¬ cmpL L (i, v i) (a, v a) < 0 := fun x => hn ⟨hv, x⟩
          rw [cmpL_turn] at hc
          by_cases hz : cmpL L (a, v a) (i, v i) = 0
          · exact .inr ⟨hz, h1⟩
          · exact .inl (by omega)
        · exact h3 i (by omega) hv hne
where
  best_none {L : List (List KV16)} {v : Nat → Nat} : ∀ {n : Nat}, bestP L v n = none → ∀ i, i < n → lenL L i ≤ v i
  | 0, _, i, hi => absurd hi (Nat.not_lt_zero _)
  | n + 1, h, i, hi => by
    unfold bestP at h
    cases e : bestP L v n with
    | none =>
      rw [e] at h
      dsimp only at h
      by_cases hn : v n < lenL L n
      · rw [if_pos hn] at h; cases h
      · by_cases en : i = n
        · subst en; omega
        · exact best_none e i (by omega)
    | some a =>
      rw [e] at h
      dsimp only at h
      split at h <;> cases h
theorem best_none {L : List (List KV16)} {v : Nat → Nat} {n : Nat} (h : bestP L v n = none) : ∀ i, i < n → lenL L i ≤ v i := best_some.best_none h
theorem sum_le {v u : Nat → Nat} : ∀ n, (∀ i, i < n → v i ≤ u i) → sumV v n ≤ sumV u n
  | 0, _ => Nat.le_refl _
  | n + 1, h => by
    have h1 := sum_le n fun i hi => h i (by omega)
    have h2 := h n (Nat.lt_succ_self n)
    show sumV v n + v n ≤ sumV u n + u n
    omega
theorem all_len (L : List (List KV16)) : (allP L).length = sumV (lenL L) L.length := by
  have h := cut_len (L := L) (v := lenL L) (fun i => Nat.le_refl _)
  rw [← h]
  congr 1
  exact (List.filter_eq_self.2 fun p hp => by unfold inV; exact decide_eq_true (show p.2 < lenL L p.1 from mem_allP.1 hp)).symm
def upV (v : Nat → Nat) (b : Nat) : Nat → Nat := fun i => if i = b then v b + 1 else v i
/-- All entries, as the document's own picks them. -/
def runAll (L : List (List KV16)) : Nat → (Nat → Nat) → List PlL
  | 0, _ => []
  | f + 1, v => match bestP L v L.length with
    | none => []
    | some b => (b, v b) :: runAll L f (upV v b)
theorem run_all {L : List (List KV16)} (hL : RiseL L) : ∀ (f : Nat) (v : Nat → Nat), CutL L v → (allP L).length ≤ f + sumV v L.length → runAll L f v = (allP L).drop (sumV v L.length)
  | 0, v, h, hf => by
    rw [List.drop_eq_nil_of_le (by omega)]
    rfl
  | f + 1, v, h, hf => by
    unfold runAll
    cases e : bestP L v L.length with
    | none =>
      have h1 := best_none e
      have h2 := sum_le (v := lenL L) (u := v) L.length h1
      rw [← all_len] at h2
      rw [List.drop_eq_nil_of_le h2]
    | some b =>
      obtain ⟨h1, h2, h3⟩ := best_some e
      obtain ⟨g1, g2⟩ := cut_next hL h h2 fun i hi hne => h3 i (by
        apply Classical.byContradiction
        intro hx
        have := lenL_out (L := L) (i := i) (by omega)
        omega) hi hne
      have g3 : sumV (upV v b) L.length = sumV v L.length + 1 := sum_upd v b _ h1
      have ih := run_all hL f (upV v b) g2 (by rw [g3]; omega)
      dsimp only
      rw [ih, g3]
      obtain ⟨hlt, hge⟩ := List.getElem?_eq_some_iff.1 g1
      rw [List.drop_eq_getElem_cons hlt, hge]
theorem run_whole {L : List (List KV16)} (hL : RiseL L) {f : Nat} (hf : (allP L).length ≤ f) : runAll L f (fun _ => 0) = allP L := by
  have hz : ∀ n, sumV (fun _ => 0) n = 0 := fun n => by
    induction n with
    | zero => rfl
    | succ n ih => show sumV _ n + 0 = 0; rw [ih]
  have h := run_all hL f (fun _ => 0) (cut_zero L) (by rw [hz]; exact hf)
  rw [hz] at h
  simpa using h
/-- Where one is that goes by a key. -/
theorem seekL_at {L : List (List KV16)} (hL : RiseL L) (k : IK) {v : Nat → Nat} (hv : ∀ i, v i ≤ lenL L i) (h1 : ∀ i j, j < v i → (entL L (i, j)).1.cmp k < 0) (h2 : ∀ i j, v i ≤ j → j < lenL L i → 0 ≤ (entL L (i, j)).1.cmp k) :
    (∀ n p, (allP L)[n]? = some p → n < sumV v L.length → (entL L p).1.cmp k < 0) ∧ (∀ n p, (allP L)[n]? = some p → sumV v L.length ≤ n → 0 ≤ (entL L p).1.cmp k) := by
  have hc := cut_seek hL k hv h1 h2
  have hs := cut_split hL hc
  have hl := cut_len (L := L) hv
  refine ⟨fun n p hp hn => ?_, fun n p hp hn => ?_⟩
  · rw [hs, List.getElem?_append_left (by omega)] at hp
    have hm := List.mem_of_getElem? hp
    obtain ⟨_, h4⟩ := List.mem_filter.1 hm
    exact h1 p.1 p.2 (by simpa [inV] using h4)
  · rw [hs, List.getElem?_append_right (by omega)] at hp
    have hm := List.mem_of_getElem? hp
    obtain ⟨h3, h4⟩ := List.mem_filter.1 hm
    exact h2 p.1 p.2 (by simpa [inV] using h4) (mem_allP.1 h3)
end Go.Proofs.Ytjoamhcehpjepab
