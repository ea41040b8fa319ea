/- Slices of bytes that a call owns: what make and append leave, told for lists of bytes. -/
import Derived.Test.YtiflepadjcpjjaaChecked
import Derived.Test.YtiflepadjcpjjaaMem
import Derived.Lib.AppendStr
import Derived.Laws.AppendOwnNone
namespace Go.Proofs.Ytiflepadjcpjjaa
open Go.RowKit

def cellsB (bs : List UInt8) : List Value := bs.map fun b => Value.int .u8 (b.toNat : Int)
theorem cellsB_length (bs : List UInt8) : (cellsB bs).length = bs.length := by simp [cellsB]
theorem cellsB_append (bs cs : List UInt8) : cellsB (bs ++ cs) = cellsB bs ++ cellsB cs := by simp [cellsB]
theorem cellsB_one (bs : List UInt8) : ∀ u ∈ cellsB bs, u.oneCell' = true := by
  intro u hu
  obtain ⟨_, _, rfl⟩ := List.mem_map.1 hu
  rfl
theorem cellsB_get (bs : List UInt8) (j : Nat) (h : j < bs.length) : (cellsB bs)[j]? = some (.int .u8 ((bs.getD j 0).toNat : Int)) := by
  simp [cellsB, List.getD, h]
theorem strCells_cellsB (s : ByteArray) : Lib.strCells s = cellsB s.data.toList := rfl

/-- The slice value (a, len, cap) reads as the bytes bs and lies in a block of the call's own, from number B on. -/
structure OwnB (w : World) (B : Nat) (a : Option Addr) (len cap : Nat) (bs : List UInt8) : Prop where
  size : bs.length = len
  row : w.ownsRow B 5 1 (.slice a len cap) len (cellsB bs)

theorem OwnB.bs {w : World} {B : Nat} {a : Option Addr} {len cap : Nat} {bs : List UInt8} (h : OwnB w B a len cap bs) : BsAt w a len cap bs := by
  have hs := h.size
  rcases h.row.2 with ⟨hv, hn⟩ | ⟨g, c, cur, hv, hb, hg, hn, hc, hz, ht⟩
  · simp only [Value.slice.injEq] at hv
    obtain ⟨rfl, rfl, rfl⟩ := hv
    exact ⟨hs, Nat.le_refl _, Nat.zero_le _, fun _ => rfl, fun h0 => absurd h0 (Nat.lt_irrefl _)⟩
  · simp only [Value.slice.injEq, true_and] at hv
    obtain ⟨rfl, rfl⟩ := hv
    refine ⟨hs, hn, hc, fun h0 => by simp at h0, fun _ => ⟨g, 0, rfl, fun j hj => ?_⟩⟩
    rw [Nat.zero_add, h.row.cellAt j (by omega), cellsB_get bs j (by omega)]

theorem OwnB.below {w w' : World} {B : Nat} {a : Option Addr} {len cap : Nat} {bs : List UInt8} (h : OwnB w B a len cap bs) (hb : Below w.heap.size w w') : OwnB w' B a len cap bs := by
  refine ⟨h.size, h.row.1, ?_⟩
  rcases h.row.2 with hn | ⟨g, c, cur, hv, hB, hg, rest⟩
  · exact .inl hn
  · exact .inr ⟨g, c, cur, hv, hB, by rw [hb.block g (Array.getElem?_eq_some_iff.1 hg).1]; exact hg, rest⟩

theorem OwnB.mono {w : World} {B B' : Nat} {a : Option Addr} {len cap : Nat} {bs : List UInt8} (h : OwnB w B a len cap bs) (hB : B' ≤ B) : OwnB w B' a len cap bs := by
  refine ⟨h.size, h.row.1, ?_⟩
  rcases h.row.2 with hn | ⟨g, c, cur, hv, hb, rest⟩
  · exact .inl hn
  · exact .inr ⟨g, c, cur, hv, Nat.le_trans hB hb, rest⟩

theorem OwnB.lt {w : World} {B : Nat} {a : Option Addr} {len cap : Nat} {bs : List UInt8} (h : OwnB w B a len cap bs) : ∀ k, (Value.slice a len cap).ownBlock = some k → B ≤ k := fun k hk => (h.row.lt k hk).1

theorem OwnB.alloc {w : World} {B : Nat} {a : Option Addr} {len cap : Nat} {bs : List UInt8} (h : OwnB w B a len cap bs) (o : Obj) : OwnB (w.alloc o) B a len cap bs := ⟨h.size, h.row.alloc o⟩
theorem BsAt.alloc {w : World} {a : Option Addr} {len cap : Nat} {bs : List UInt8} (h : BsAt w a len cap bs) (o : Obj) : BsAt (w.alloc o) a len cap bs := h.below (Nat.le_refl _) ((Below.refl _ _).alloc (Nat.le_refl _) _)

theorem infoU8 : (Try.prog.info? 5).map (fun i => (i.zero, i.size, i.bytes)) = some (some (.int .u8 0), 1, 1) := by kernel_rfl

theorem own_of_row {w : World} {B : Nat} {v : Value} {n : Nat} {bs : List UInt8} (h : w.ownsRow B 5 1 v n (cellsB bs)) : ∃ a cap, v = .slice a n cap ∧ OwnB w B a n cap bs := by
  have hn : bs.length = n := by have := h.1; rw [cellsB_length] at this; omega
  rcases h.2 with ⟨rfl, rfl⟩ | ⟨g, c, cur, rfl, rest⟩
  · exact ⟨none, 0, rfl, hn, h⟩
  · exact ⟨_, c, rfl, hn, h⟩

/-- Bytes appended to a slice of the call's own: a law for the walk. -/
theorem wpList_app (w : World) {ops : Array Oper} {rest : List Oper} {o : Oper} {a : Act} {Q : Exit → Act → World → Prop} (hgd : o.guard = none) (s x : Operand)
    (ho : o.op = .call { callee := .builtin .append, args := #[s, x], argTypes := #[28, 28] })
    (B : Nat) (a1 : Option Addr) (n1 c1 : Nat) (bs : List UInt8) (hs : a.eval s = .slice a1 n1 c1) (hown : OwnB w B a1 n1 c1 bs)
    (a2 : Option Addr) (n2 c2 : Nat) (cs : List UInt8) (hx : a.eval x = .slice a2 n2 c2) (hsrc : BsAt w a2 n2 c2 cs)
    (hl : n1 + n2 ≤ 140737488355328) (hB : B ≤ w.heap.size)
    (h : ∀ a' c' w', OwnB w' B a' (n1 + n2) c' (bs ++ cs) → Below B w w' → w.grownBy w' (Value.slice a1 n1 c1).ownBlock → wpList Try.prog ops Q rest (a.put o.dst (.slice a' (n1 + n2) c')) w') :
    wpList Try.prog ops Q (o :: rest) a w := by
  obtain ⟨i, hi, hz0, hz1, hz2⟩ := info_parts infoU8
  have hsz := hsrc.size
  have fin : ∀ v' w', w'.ownsRow B 5 1 v' (n1 + n2) (cellsB bs ++ cellsB cs) → w.grownBy w' (Value.slice a1 n1 c1).ownBlock → wpList Try.prog ops Q rest (a.put o.dst v') w' := by
    intro v' w' hr hg
    rw [← cellsB_append] at hr
    obtain ⟨a', c', rfl, ho'⟩ := own_of_row hr
    exact h a' c' w' ho' ((Below.refl B w).grown hg hB hown.lt) hg
  cases a2 with
  | none =>
    have hc0 := hsrc.bare rfl
    have hle := hsrc.le
    obtain rfl : n2 = 0 := by omega
    subst hc0
    obtain rfl := List.eq_nil_of_length_eq_zero hsz
    refine wpList_append_own_none hgd s x _ ho B 5 i 1 Try.underlying28 hi _ n1 _ hs hown.row hx ?_
    exact fin _ w (by simpa [cellsB] using hown.row) (World.grownBy.refl _ _)
  | some ad =>
    have hcell : ∀ j u, (cellsB cs)[j]? = some u → w.cell? (ad.add j) = some u := by
      intro j u hu
      have hj : j < cs.length := by have := (List.getElem?_eq_some_iff.1 hu).1; rwa [cellsB_length] at this
      obtain ⟨b, off, he, hc⟩ := hsrc.here (by omega)
      obtain rfl := Option.some.inj he
      rw [cellsB_get cs j hj] at hu
      obtain rfl := Option.some.inj hu
      rw [Addr.add_lit]
      exact hc j (by omega)
    exact wpList_append_own w hgd s x _ ho B 5 i (.int .u8 0) 1 1 Try.underlying28 hi hz0 hz1 hz2 rfl (by decide) _ n1 _ hs hown.row ad n2 c2 (cellsB cs) hx (by rw [cellsB_length]; omega) hcell (cellsB_one cs) (by unfold maxLen; omega) (by omega) hB
      (fun v' w' hr hg _ => fin v' w' hr hg)

/-- A string appended to a slice of the call's own. -/
theorem wpList_appS (w : World) {ops : Array Oper} {rest : List Oper} {o : Oper} {a : Act} {Q : Exit → Act → World → Prop} (hgd : o.guard = none) (s x : Operand)
    (ho : o.op = .call { callee := .builtin .append, args := #[s, x], argTypes := #[28, 9] })
    (B : Nat) (a1 : Option Addr) (n1 c1 : Nat) (bs : List UInt8) (hs : a.eval s = .slice a1 n1 c1) (hown : OwnB w B a1 n1 c1 bs)
    (t : ByteArray) (hx : a.eval x = .string t) (hl : n1 + t.size ≤ 140737488355328) (hB : B ≤ w.heap.size)
    (h : ∀ a' c' w', OwnB w' B a' (n1 + t.size) c' (bs ++ t.data.toList) → Below B w w' → w.grownBy w' (Value.slice a1 n1 c1).ownBlock → wpList Try.prog ops Q rest (a.put o.dst (.slice a' (n1 + t.size) c')) w') :
    wpList Try.prog ops Q (o :: rest) a w := by
  obtain ⟨i, hi, hz0, hz1, hz2⟩ := info_parts infoU8
  refine Lib.wpList_append_own_string w hgd s x _ _ ho B 5 i Try.underlying28 Try.underlying9 hi hz0 hz1 hz2 _ n1 _ hs hown.row t hx (by unfold maxLen; omega) hl hB ?_
  intro v' w' hr hg _
  rw [strCells_cellsB, ← cellsB_append] at hr
  obtain ⟨a', c', rfl, ho'⟩ := own_of_row hr
  exact h a' c' w' ho' ((Below.refl B w).grown hg hB hown.lt) hg

/-- A literal of bytes. -/
theorem BsAt.lit (w : World) (arr : Array Value) (e : TypeId) (fz : Nat × Nat) (bs : List UInt8) (n : Nat) (h : arr.toList = cellsB bs) (hn : bs.length = n) (hm : n ≤ maxLen) : BsAt (w.alloc (.cells arr e fz)) (some ⟨w.heap.size, 0, none⟩) n n bs := by
  refine ⟨hn, Nat.le_refl _, hm, by simp, fun _ => ⟨w.heap.size, 0, rfl, fun j hj => ?_⟩⟩
  rw [← cellsB_get bs j (by omega), ← h, cell_of_row (w.alloc (.cells arr e fz)) w.heap.size (0 + j) arr e fz (heap_alloc_new w _)]
  simp
theorem BsAt.litAt (w : World) (arr : Array Value) (e : TypeId) (fz : Nat × Nat) (bs : List UInt8) (n g : Nat) (hg : g = w.heap.size) (h : arr.toList = cellsB bs) (hn : bs.length = n) (hm : n ≤ maxLen) : BsAt (w.alloc (.cells arr e fz)) (some ⟨g, 0, none⟩) n n bs := by
  subst hg
  exact BsAt.lit w arr e fz bs n h hn hm
/-- An empty literal. -/
theorem OwnB.made (w : World) : OwnB (w.alloc (.cells #[] 5)) w.heap.size (some ⟨w.heap.size, 0, none⟩) 0 0 [] := ⟨rfl, World.ownsRow_made w #[] 0 (Nat.le_refl _) (Nat.zero_le _) rfl⟩
theorem BsAt.nil (w : World) : BsAt w none 0 0 [] := ⟨rfl, Nat.le_refl _, Nat.zero_le _, fun _ => rfl, fun h => absurd h (Nat.lt_irrefl _)⟩
/-- Bytes appended to an empty literal: a copy of the call's own. -/
theorem wpList_app0 (w : World) {ops : Array Oper} {rest : List Oper} {o : Oper} {a : Act} {Q : Exit → Act → World → Prop} (hgd : o.guard = none) (s x : Operand)
    (ho : o.op = .call { callee := .builtin .append, args := #[s, x], argTypes := #[28, 28] })
    (hs : a.eval s = .slice (some ⟨w.heap.size, 0, none⟩) 0 0)
    (a2 : Option Addr) (n2 c2 : Nat) (cs : List UInt8) (hx : a.eval x = .slice a2 n2 c2) (hsrc : BsAt w a2 n2 c2 cs) (hl : n2 ≤ 140737488355328)
    (h : ∀ a' c' w', OwnB w' w.heap.size a' n2 c' cs → Below w.heap.size w w' → wpList Try.prog ops Q rest (a.put o.dst (.slice a' n2 c')) w') :
    wpList Try.prog ops Q (o :: rest) a (w.alloc (.cells #[] 5)) := by
  refine wpList_app _ hgd s x ho w.heap.size _ 0 0 [] hs (OwnB.made w) a2 n2 c2 cs hx (hsrc.alloc _) (by omega) (by simp) ?_
  intro a' c' w' h1 h2 _
  rw [Nat.zero_add] at h1 ⊢
  exact h a' c' w' h1 (((Below.refl _ _).alloc (Nat.le_refl _) _).trans h2)
/-- Where the bytes of an own slice lie. -/
theorem OwnB.cells {w : World} {B : Nat} {a : Option Addr} {len cap : Nat} {bs : List UInt8} (h : OwnB w B a len cap bs) (hp : 0 < len) : ∃ g, a = some ⟨g, 0, none⟩ ∧ B ≤ g ∧ g < w.heap.size ∧ ∀ j, j < len → w.cell? ⟨g, j, none⟩ = some (.int .u8 ((bs.getD j 0).toNat : Int)) := by
  obtain ⟨b, off, rfl, hc⟩ := h.bs.here hp
  rcases h.row.2 with ⟨hv, hn⟩ | ⟨g, c, cur, hv, hb, hg, hn, hcm, hz, ht⟩
  · simp at hv
  · simp only [Value.slice.injEq, Option.some.injEq, Addr.mk.injEq, true_and, and_true] at hv
    obtain ⟨⟨rfl, rfl⟩, rfl⟩ := hv
    exact ⟨b, rfl, hb, (Array.getElem?_eq_some_iff.1 hg).1, fun j hj => by have := hc j hj; rwa [Nat.zero_add] at this⟩

theorem OwnB.unfrozen {w : World} {B g len cap : Nat} {bs : List UInt8} (h : OwnB w B (some ⟨g, 0, none⟩) len cap bs) (j : Nat) : w.frozen? ⟨g, j, none⟩ = false := by
  rcases h.row.2 with ⟨hv, _⟩ | ⟨g', c, cur, hv, _, hg, _⟩
  · simp at hv
  · simp only [Value.slice.injEq, Option.some.injEq, Addr.mk.injEq, true_and, and_true] at hv
    obtain ⟨rfl, rfl⟩ := hv
    unfold World.frozen?
    rw [hg]
    simp
/-- A byte of a slice is stored. -/
theorem BsAt.store {w : World} {g off len cap : Nat} {bs : List UInt8} (h : BsAt w (some ⟨g, off, none⟩) len cap bs) (j : Nat) (hj : j < len) (x : UInt8) : BsAt (w.setCell ⟨g, off + j, none⟩ (.int .u8 (x.toNat : Int))) (some ⟨g, off, none⟩) len cap (bs.set j x) := by
  have hs := h.size
  refine ⟨by simp [hs], h.le, h.max, h.bare, fun hp => ⟨g, off, rfl, fun i hi => ?_⟩⟩
  obtain ⟨b, o, he, hc⟩ := h.here hp
  simp only [Option.some.injEq, Addr.mk.injEq, and_true] at he
  obtain ⟨rfl, rfl⟩ := he
  by_cases hij : i = j
  · subst hij
    rw [World.cell?_setCell_same _ _ _ (hc i hi)]
    simp [List.getD, hs, hi]
  · rw [World.cell?_setCell_other _ _ _ _ (fun e => hij (by have := congrArg Addr.off e; simp at this; omega)), hc i hi]
    simp [List.getD, show ¬ j = i from fun e => hij e.symm]
/-- A constant text as bytes: the row of the literal is marked, nothing else. -/
theorem run_conv_lit (W : World) (C : Array Value) (n l c : Nat) (hn : n = W.heap.size) :
    (convert 28 28 (.slice (some ⟨n, 0, none⟩) l c)).run Try.prog (W.alloc (.cells C 5)) = .ok (.slice (some ⟨n, 0, none⟩) l c) (W.alloc (.cells C 5 (C.size, C.size + 1))) := by
  subst hn
  have hsh : (W.alloc (.cells C 5)).shape? W.heap.size = some (5, C.size) := by
    unfold World.shape?
    rw [heap_alloc_new W (.cells C 5)]
  have hfr : (W.alloc (.cells C 5)).freeze ⟨W.heap.size, C.size, none⟩ 1 = W.alloc (.cells C 5 (C.size, C.size + 1)) := by
    have hm : ∀ (a : Array Obj) (x : Obj) (f : Obj → Obj), (a.push x).modify a.size f = a.push (f x) := by
      intro a x f
      apply Array.ext
      · simp
      · intro i h1 h2
        simp only [Array.getElem_modify, Array.getElem_push]
        by_cases h : a.size = i
        · subst h
          simp
        · have hi : i < a.size := by simp at h1; omega
          simp [h, hi]
    unfold World.freeze
    rw [if_neg (by decide)]
    show ({ W.alloc (.cells C 5) with heap := (W.heap.push (.cells C 5)).modify W.heap.size _ } : World) = _
    rw [hm]
    rfl
  simp [convert, run_underlying Try.underlying28, run_underlying Try.underlying5, markStringish, hsh]
  exact hfr
theorem BsAt.drew {w : World} {a : Option Addr} {len cap : Nat} {bs : List UInt8} (h : BsAt w a len cap bs) : BsAt w.drew a len cap bs := h.below (Nat.le_refl _) (Below.refl _ _).drew
/-- A slice of bytes as a string, in whatever world it reads so. -/
theorem conv_of {w : World} {a : Option Addr} {len cap : Nat} {bs : List UInt8} (h : BsAt w a len cap bs) : (convert 28 9 (.slice a len cap)).run Try.prog w = .ok (.string (strOf bs)) w :=
  h.asStr (P := Try.prog) (dst := 9) Try.underlying28 Try.underlying5 Try.underlying9
/-- The first k bytes. -/
theorem BsAt.upTo {w : World} {a : Option Addr} {len cap : Nat} {bs : List UInt8} (h : BsAt w a len cap bs) (k : Nat) (hk : k ≤ len) : BsAt w a k cap (bs.take k) := by
  have hs := h.size
  have hl := h.le
  refine ⟨by simp; omega, by omega, h.max, h.bare, fun hp => ?_⟩
  obtain ⟨b, off, rfl, hc⟩ := h.here (by omega)
  refine ⟨b, off, rfl, fun j hj => ?_⟩
  rw [hc j (by omega)]
  simp [List.getD, hj]
theorem strOf_inj {a b : List UInt8} (h : strOf a = strOf b) : a = b := by
  have := congrArg (fun s : ByteArray => s.data.toList) h
  simpa [strOf] using this
end Go.Proofs.Ytiflepadjcpjjaa
