/- What wal.Read's round calls: a piece's begins and ends; appends inside a fence; records that are told. -/
import Derived.Test.YtdhfimolgcnejaaW9Mem
namespace Go.Proofs.Ytdhfimolgcnejaa
open Go.RowKit Go.Shelf

set_option maxHeartbeats 400000 in
theorem begins_any (k : UInt8) (a : Option Addr) (n c : Nat) (z : Int) (w : World) :
    Calls Try.prog 21 #[.agg #[.int .u8 (k.toNat : Int), .slice a n c, .int .i64 z]] w fun e w' => e = .returned (.bool (decide (k.toNat = 1 ∨ k.toNat = 2))) ∧ Below w.heap.size w w' := by
  by_cases h1 : k.toNat = 1
  · have hb : ((k.toNat : Int) == 1) = true := by simp; omega
    have HD : Hid (decide (k.toNat = 1 ∨ k.toNat = 2) = true) := by unfold Hid; simp [h1]
    clear h1
    go_enter Try.func21, Try.ntmps21
    go_wp2
    go_ret
    exact ⟨ret1 (by rw [HD.out]; rfl), (Below.refl _ _).alloc (Nat.le_refl _) _⟩
  · have hb : ((k.toNat : Int) == 1) = false := by simp; omega
    have HD : Hid (decide (k.toNat = 1 ∨ k.toNat = 2) = ((k.toNat : Int) == 2)) := by
      unfold Hid
      by_cases h2 : k.toNat = 2
      · rw [h2]; rfl
      · rw [decide_eq_false (by omega)]
        symm
        simp
        omega
    clear h1
    go_enter Try.func21, Try.ntmps21
    go_wp2
    go_ret
    exact ⟨ret1 (by rw [HD.out]; rfl), (Below.refl _ _).alloc (Nat.le_refl _) _⟩
set_option maxHeartbeats 400000 in
theorem ends_any (k : UInt8) (a : Option Addr) (n c : Nat) (z : Int) (w : World) :
    Calls Try.prog 22 #[.agg #[.int .u8 (k.toNat : Int), .slice a n c, .int .i64 z]] w fun e w' => e = .returned (.bool (decide (k.toNat = 1 ∨ k.toNat = 4))) ∧ Below w.heap.size w w' := by
  by_cases h1 : k.toNat = 1
  · have hb : ((k.toNat : Int) == 1) = true := by simp; omega
    have HD : Hid (decide (k.toNat = 1 ∨ k.toNat = 4) = true) := by unfold Hid; simp [h1]
    clear h1
    go_enter Try.func22, Try.ntmps22
    go_wp2
    go_ret
    exact ⟨ret1 (by rw [HD.out]; rfl), (Below.refl _ _).alloc (Nat.le_refl _) _⟩
  · have hb : ((k.toNat : Int) == 1) = false := by simp; omega
    have HD : Hid (decide (k.toNat = 1 ∨ k.toNat = 4) = ((k.toNat : Int) == 4)) := by
      unfold Hid
      by_cases h2 : k.toNat = 4
      · rw [h2]; rfl
      · rw [decide_eq_false (by omega)]
        symm
        simp
        omega
    clear h1
    go_enter Try.func22, Try.ntmps22
    go_wp2
    go_ret
    exact ⟨ret1 (by rw [HD.out]; rfl), (Below.refl _ _).alloc (Nat.le_refl _) _⟩

theorem begins_eq (k : UInt8) (t : Bool) (ht : decide (k.toNat = 1 ∨ k.toNat = 2) = t) (a : Option Addr) (n c : Nat) (z : Int) (w : World) :
    Calls Try.prog 21 #[.agg #[.int .u8 (k.toNat : Int), .slice a n c, .int .i64 z]] w fun e w' => e = .returned (.bool t) ∧ Below w.heap.size w w' := by
  subst ht
  exact begins_any k a n c z w
theorem ends_eq (k : UInt8) (t : Bool) (ht : decide (k.toNat = 1 ∨ k.toNat = 4) = t) (a : Option Addr) (n c : Nat) (z : Int) (w : World) :
    Calls Try.prog 22 #[.agg #[.int .u8 (k.toNat : Int), .slice a n c, .int .i64 z]] w fun e w' => e = .returned (.bool t) ∧ Below w.heap.size w w' := by
  subst ht
  exact ends_any k a n c z w
/-- Bytes appended to a slice of the call's own, inside a fence. -/
theorem wpListIn_app {F : Fence} {n : Nat} (w : World) {ops : Array Oper} {rest : List Oper} {o : Oper} {a : Act} {Q : Exit → Act → World → Prop} (hgd : o.guard = none) (s x : Operand)
    (ho : o.op = .call { callee := .builtin .append, args := #[s, x], argTypes := #[23, 23] })
    (B : Nat) (a1 : Option Addr) (n1 c1 : Nat) (bs : List UInt8) (hs : a.eval s = .slice a1 n1 c1) (hown : OwnB w B a1 n1 c1 bs)
    (a2 : Option Addr) (n2 c2 : Nat) (cs : List UInt8) (hx : a.eval x = .slice a2 n2 c2) (hsrc : BsAt w a2 n2 c2 cs)
    (hl : n1 + n2 ≤ 140737488355328) (hB : B ≤ w.heap.size)
    (h : ∀ a' c' w', OwnB w' B a' (n1 + n2) c' (bs ++ cs) → w.grownBy w' (blkOf a1) → wpListIn F n Try.prog ops Q rest (a.put o.dst (.slice a' (n1 + n2) c')) w') :
    wpListIn F n Try.prog ops Q (o :: rest) a w := by
  obtain ⟨i, hi, hz0, hz1, hz2⟩ := info_parts infoU8
  have hsz := hsrc.size
  have fin : ∀ v' w', w'.ownsRow B 5 1 v' (n1 + n2) (cellsB bs ++ cellsB cs) → w.grownBy w' (Value.slice a1 n1 c1).ownBlock → wpListIn F n Try.prog ops Q rest (a.put o.dst v') w' := by
    intro v' w' hr hg
    rw [← cellsB_append] at hr
    obtain ⟨a', c', rfl, ho'⟩ := own_of_row hr
    exact h a' c' w' ho' (by rw [← own_blk a1 n1 c1]; exact hg)
  cases a2 with
  | none =>
    have hc0 := hsrc.bare rfl
    have hle := hsrc.le
    obtain rfl : n2 = 0 := by omega
    subst hc0
    obtain rfl := List.eq_nil_of_length_eq_zero hsz
    have hrun := run_append_owned_none (P := Try.prog) (w := w) B 23 o.type 5 i 1 Try.underlying23 hi _ n1 _ hown.row
    refine wpListIn_plain hgd fun K hK' => ?_
    unfold Oper.wpIn
    refine ⟨?_, ?_⟩
    · simp [Oper.about, ho, resolve, Target.leads, Sem.run_pure]
    · rw [Oper.semAt_plain F _ _ (by rw [ho]; intro c hc'; cases hc')]
      simp [execOp, ho, resolve, invoke, builtin, hs, hx, hrun, Result.andThen]
      exact hK' _ _ (fin _ w (by simpa [cellsB] using hown.row) (World.grownBy.refl _ _))
  | some ad =>
    have hcell : ∀ j u, (cellsB cs)[j]? = some u → w.cell? (ad.add j) = some u := by
      intro j u hu
      have hj : j < cs.length := by have := (List.getElem?_eq_some_iff.1 hu).1; rwa [cellsB_length] at this
      obtain ⟨b, off, he, hc⟩ := hsrc.here (by omega)
      obtain rfl := Option.some.inj he
      rw [cellsB_get cs j hj] at hu
      obtain rfl := Option.some.inj hu
      rw [Addr.add_lit]
      exact hc j (by omega)
    exact wpListIn_append_own w hgd s x _ ho B 5 i (.int .u8 0) 1 1 Try.underlying23 hi hz0 hz1 hz2 rfl (by decide) _ n1 _ hs hown.row ad n2 c2 (cellsB cs) hx (by rw [cellsB_length]; omega) hcell (cellsB_one cs) (by unfold maxLen; omega) (by omega) hB
      (fun v' w' hr hg _ => fin v' w' hr hg)
theorem infoBs : (Try.prog.info? TBs).map (fun i => (i.zero, i.size, i.bytes)) = some (some (.slice none 0 0), 1, 24) := by kernel_rfl
/-- One slice of bytes appended to a row of such, inside a fence. -/
theorem wpListIn_push {F : Fence} {n : Nat} (W : World) {ops : Array Oper} {rest : List Oper} {o : Oper} {a : Act} {Q : Exit → Act → World → Prop} (hgd : o.guard = none) (s x : Operand)
    (ho : o.op = .call { callee := .builtin .append, args := #[s, x], argTypes := #[TRows, TRows] })
    (B : Nat) (a1 : Option Addr) (n1 c1 : Nat) (vs : List Value) (hs : a.eval s = .slice a1 n1 c1) (hown : W.ownsRow B TBs 1 (.slice a1 n1 c1) n1 vs)
    (v : Value) (hv : v.oneCell' = true) (hx : a.eval x = .slice (some ⟨W.heap.size, 0, none⟩) 1 1) (hl : n1 + 1 ≤ 5000000000000) (hB : B ≤ W.heap.size)
    (h : ∀ a' c' w', w'.ownsRow B TBs 1 (.slice a' (n1 + 1) c') (n1 + 1) (vs ++ [v]) → (W.alloc (.cells #[v] TBs)).grownBy w' (blkOf a1) → wpListIn F n Try.prog ops Q rest (a.put o.dst (.slice a' (n1 + 1) c')) w') :
    wpListIn F n Try.prog ops Q (o :: rest) a (W.alloc (.cells #[v] TBs)) := by
  obtain ⟨i, hi, hz0, hz1, hz2⟩ := info_parts infoBs
  refine wpListIn_append_own _ hgd s x _ ho B TBs i (.slice none 0 0) 1 24 Try.underlying28 hi hz0 hz1 hz2 rfl (by decide) _ n1 vs hs (hown.alloc _) ⟨W.heap.size, 0, none⟩ 1 1 [v] hx rfl ?_ (by simpa using hv) (by unfold maxLen; omega) (by omega) (by simp; omega) ?_
  · intro j u hu
    have hj : j = 0 := by
      have := (List.getElem?_eq_some_iff.1 hu).1
      simp at this
      exact this
    subst hj
    simp at hu
    subst hu
    simp [Addr.add]
  · intro v' w' hr hg _
    rcases hr.2 with ⟨rfl, h0⟩ | ⟨g, c', cur, rfl, _⟩
    · omega
    · exact h _ _ _ hr (by rw [← own_blk a1 n1 c1]; exact hg)

/-- Records that are told: a row of slices of bytes, all of them in blocks from B on. -/
structure OwnRs (W : World) (B : Nat) (a : Option Addr) (len cap : Nat) (rs : List (List UInt8)) : Prop where
  size : rs.length = len
  rows : ∃ vs, W.ownsRow B TBs 1 (.slice a len cap) len vs ∧ ∀ j, j < len → ∃ M, RecAt W B M (vs.getD j undef) (rs.getD j [])
theorem OwnRs.keep {W W' : World} {B : Nat} {a : Option Addr} {len cap : Nat} {rs : List (List UInt8)} (h : OwnRs W B a len cap rs) (hk : ∀ k, B ≤ k → k < W.heap.size → W'.heap[k]? = W.heap[k]?) : OwnRs W' B a len cap rs := by
  obtain ⟨vs, hr, hj⟩ := h.rows
  refine ⟨h.size, vs, row_same hr (fun k e => ?_), fun j hjl => ?_⟩
  · obtain ⟨h1, arr, ha⟩ := row_block hr e
    exact hk k h1 (Array.getElem?_eq_some_iff.1 ha).1
  · obtain ⟨M, hM⟩ := hj j hjl
    exact ⟨M, hM.same fun k arr _ h6 ha => hk k h6 (Array.getElem?_eq_some_iff.1 ha).1⟩
theorem OwnRs.below {W W' : World} {B : Nat} {a : Option Addr} {len cap : Nat} {rs : List (List UInt8)} (h : OwnRs W B a len cap rs) (hb : Below W.heap.size W W') : OwnRs W' B a len cap rs := h.keep fun k _ hk => hb.block k hk
/-- A slice of slices of bytes that reads as records. -/
structure RsAt (w : World) (a : Option Addr) (len cap : Nat) (rs : List (List UInt8)) : Prop where
  size : rs.length = len
  le : len ≤ cap
  max : cap ≤ maxLen
  bare : a = none → cap = 0
  here : 0 < len → ∃ b off, a = some ⟨b, off, none⟩ ∧ ∀ j, j < len → ∃ aj cj, w.cell? ⟨b, off + j, none⟩ = some (.slice aj (rs.getD j []).length cj) ∧ BsAt w aj (rs.getD j []).length cj (rs.getD j [])
theorem RsAt.below {B : Nat} {w w' : World} {a : Option Addr} {len cap : Nat} {rs : List (List UInt8)} (h : RsAt w a len cap rs) (hB : w.heap.size ≤ B) (hb : Below B w w') : RsAt w' a len cap rs :=
  ⟨h.size, h.le, h.max, h.bare, fun hp => by
    obtain ⟨b, off, ha, hc⟩ := h.here hp
    refine ⟨b, off, ha, fun j hj => ?_⟩
    obtain ⟨aj, cj, h1, h2⟩ := hc j hj
    refine ⟨aj, cj, ?_, h2.below hB hb⟩
    rw [hb.cell (Nat.lt_of_lt_of_le (World.block_lt_of_cell? w _ h1) hB)]
    exact h1⟩
theorem OwnRs.rs {W : World} {B : Nat} {a : Option Addr} {len cap : Nat} {rs : List (List UInt8)} (h : OwnRs W B a len cap rs) : RsAt W a len cap rs := by
  obtain ⟨vs, hr, hj⟩ := h.rows
  have hvl : vs.length = len := by simpa using hr.1
  rcases hr.2 with ⟨hv, hn⟩ | ⟨g, c, cur, hv, hb, hg, hn, hc, hz, ht⟩
  · simp only [Value.slice.injEq] at hv
    obtain ⟨rfl, rfl, rfl⟩ := hv
    exact ⟨h.size, Nat.le_refl _, Nat.zero_le _, fun _ => rfl, fun h0 => absurd h0 (Nat.lt_irrefl _)⟩
  · simp only [Value.slice.injEq, true_and] at hv
    obtain ⟨rfl, rfl⟩ := hv
    refine ⟨h.size, hn, hc, fun h0 => by simp at h0, fun _ => ⟨g, 0, rfl, fun j hjl => ?_⟩⟩
    obtain ⟨M, aj, cj, e, ho, _⟩ := hj j hjl
    refine ⟨aj, cj, ?_, ho.bs⟩
    rw [Nat.zero_add, hr.cellAt j (by omega), ← e]
    simp [List.getD, hvl, hjl]
end Go.Proofs.Ytdhfimolgcnejaa
