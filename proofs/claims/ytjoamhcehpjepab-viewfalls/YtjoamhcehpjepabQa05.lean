/- The document's own view in memory; its Go. -/
import Derived.Test.YtjoamhcehpjepabQa04
namespace Go.Proofs.Ytjoamhcehpjepab
open Go.RowKit
set_option linter.unusedVariables false
set_option linter.unusedSimpArgs false
def norm7 (l : List It17) (i : Nat) : Option Nat := if i < l.length then some i else none
def seek7 (l : List It17) (u : ByteArray) : Nat := (l.takeWhile fun e => decide (uc e.1 u < 0)).length
/-- Where one is behind a way to go. -/
def go7 (l : List It17) (g : Nat) (u : ByteArray) (at_ : Option Nat) : Option Nat :=
  match g with
  | 1 => norm7 l 0
  | 2 => if l.length = 0 then none else some (l.length - 1)
  | 3 => norm7 l (seek7 l u)
  | 4 => at_.bind fun i => norm7 l (i + 1)
  | 5 => at_.bind fun i => if i = 0 then none else some (i - 1)
  | _ => at_
def told7 (l : List It17) : Option Nat → It17 × Bool
  | none => (i0, false)
  | some i => (l.getD i i0, true)
theorem norm7_fit {l : List It17} {j i : Nat} (h : norm7 l j = some i) : i < l.length := by
  unfold norm7 at h
  split at h
  · cases h; assumption
  · cases h
theorem go7_fit {l : List It17} {g : Nat} {k : ByteArray} {o : Option Nat} (ho : ∀ i, o = some i → i < l.length) {i : Nat} (h : go7 l g k o = some i) : i < l.length := by
  unfold go7 at h
  split at h
  · exact norm7_fit h
  · split at h
    · cases h
    · cases h; omega
  · exact norm7_fit h
  · cases o with
    | none => cases h
    | some j => exact norm7_fit h
  · cases o with
    | none => cases h
    | some j =>
      have := ho j rfl
      simp only [Option.bind_some] at h
      split at h
      · cases h
      · cases h; omega
  · exact ho i h
theorem norm7_enc (l : List It17) (i : Nat) : encI (norm7 l i) = if i < l.length then (i : Int) else -1 := by
  unfold norm7
  split <;> rfl
end Go.Proofs.Ytjoamhcehpjepab
/- The document's own Go by a key, Told, New, Same. -/
namespace Go.Proofs.Ytjoamhcehpjepab
open Go.RowKit
set_option linter.unusedVariables false
set_option linter.unusedSimpArgs false
theorem seek7_at {k : ByteArray} : ∀ {l : List It17} {i : Nat}, i ≤ l.length → (∀ j (hj : j < l.length), j < i → uc l[j].1 k < 0) → (∀ hi : i < l.length, ¬ uc l[i].1 k < 0) → seek7 l k = i
  | [], i, h, _, _ => by
    obtain rfl : i = 0 := by simpa using h
    rfl
  | e :: l, 0, _, _, h => by
    have := h (by simp)
    show (List.takeWhile _ (e :: l)).length = 0
    rw [List.takeWhile_cons_of_neg (by simpa using this)]
    rfl
  | e :: l, i + 1, h, h1, h2 => by
    have h0 := h1 0 (by simp) (by omega)
    show (List.takeWhile _ (e :: l)).length = i + 1
    rw [List.takeWhile_cons_of_pos (by simpa using h0)]
    have ih := seek7_at (k := k) (l := l) (i := i) (by simpa using h) (fun j hj hji => h1 (j + 1) (by simpa using hj) (by omega)) (fun hi => h2 (by simpa using hi))
    show (List.takeWhile _ l).length + 1 = i + 1
    unfold seek7 at ih
    rw [ih]
def atV (w : World) (p : Nat) : Nat := match w.cell? ⟨p, 1, none⟩ with
  | some (.int _ i) => i.toNat
  | _ => 0
theorem uc_less {a b : ByteArray} : uc a b < 0 ↔ Op.bytesLess a.toList b.toList = true := by
  unfold uc
  rcases scmp_spec a.toList b.toList with ⟨h, e⟩ | ⟨h, e⟩ | ⟨h, e⟩
  · rw [h]; simp [e]
  · rw [h, e, less_self]; simp
  · rw [h, less_asymm _ _ e]; simp
theorem OwnI.cellsAt {w : World} {B : Nat} {a : Option Addr} {n c : Nat} {l : List It17} (h : OwnI w B a n c l) (hp : 0 < n) : ∃ g, a = some ⟨g, 0, none⟩ ∧ ∀ k (hk : k < l.length), w.cell? ⟨g, k * 2, none⟩ = some (.string l[k].1) ∧ w.cell? ⟨g, k * 2 + 1, none⟩ = some (.string l[k].2) := by
  obtain ⟨g, ha, hc, _⟩ := h.spots hp
  refine ⟨g, ha, fun k hk => ?_⟩
  have := hc k (by rw [← h.size]; exact hk)
  have e : l.getD k i0 = l[k] := by simp [List.getD, hk]
  rw [e] at this
  exact this
abbrev itA (e : It17) : Array Value := #[.string e.1, .string e.2]
end Go.Proofs.Ytjoamhcehpjepab
/- The document's own Same; items held against one another. -/
namespace Go.Proofs.Ytjoamhcehpjepab
open Go.RowKit
set_option linter.unusedVariables false
set_option linter.unusedSimpArgs false
instance : DecidableEq It17 := inferInstanceAs (DecidableEq (ByteArray × ByteArray))
def eqI (e f : It17) : Bool := decide (e = f)
theorem eqI_data (e f : It17) : eqI e f = (decide (e.1.data = f.1.data) && decide (e.2.data = f.2.data)) := by
  unfold eqI
  rw [← Bool.decide_and]
  refine decide_eq_decide.2 ⟨fun h => by rw [h]; exact ⟨rfl, rfl⟩, fun ⟨h1, h2⟩ => ?_⟩
  obtain ⟨⟨a⟩, ⟨b⟩⟩ := e
  obtain ⟨⟨c⟩, ⟨d⟩⟩ := f
  dsimp only at h1 h2
  rw [h1, h2]
set_option maxRecDepth 100000 in
theorem run_eql_it (e f : It17) (W : World) : (binOp .eql TItm (.agg (itA e)) (.agg (itA f))).run Try.prog W = .ok (.bool (eqI e f)) W := by
  rw [eqI_data]
  unfold itA
  simp [go_sem, Try.underlying39, Try.underlying9]
  by_cases h1 : e.1.data = f.1.data <;> by_cases h4 : e.2.data = f.2.data <;> simp [ByteArray.toList_eq, h1, h4]
set_option maxRecDepth 100000 in
theorem run_neq_it (e f : It17) (W : World) : (binOp .neq TItm (.agg (itA e)) (.agg (itA f))).run Try.prog W = .ok (.bool (!eqI e f)) W := by
  rw [eqI_data]
  unfold itA
  simp [go_sem, Try.underlying39, Try.underlying9]
  by_cases h1 : e.1.data = f.1.data <;> by_cases h4 : e.2.data = f.2.data <;> simp [ByteArray.toList_eq, h1, h4]
set_option maxRecDepth 100000 in
set_option maxHeartbeats 2000000 in
theorem vsame_any {w : World} {B B' : Nat} {a b : Option Addr} {n c m d : Nat} {l k : List It17} (ha : OwnI w B a n c l) (hb : OwnI w B' b m d k) (hn : n ≤ 1000000) :
    Calls Try.prog 8 #[.slice a n c, .slice b m d] w fun e w' => e = .returned (.bool (decide (l = k))) ∧ Below w.heap.size w w' := by
  have HL : Hid (l.length = n ∧ k.length = m) := ⟨ha.size, hb.size⟩
  have HA : Hid (OwnI w B a n c l ∧ OwnI w B' b m d k) := ⟨ha, hb⟩
  clear ha hb
  by_cases hnm : n = m
  · subst hnm
    go_enter Try.func8, Try.ntmps8
    go_wp2_with fail
    go_loopw [5] (fun s5 wr => ∃ (i : Nat), i ≤ n ∧ s5 = .int .i64 (i : Int) ∧ Hid (Below w.heap.size w wr ∧ ∀ j (h1 : j < l.length) (h2 : j < k.length), j < i → l[j] = k[j])) (fun s5 _ => n - (intOf s5).toNat)
    case atStart => exact ⟨0, Nat.zero_le _, rfl, Below.refl _ _, fun j _ _ h => absurd h (Nat.not_lt_zero _)⟩
    case round =>
      obtain ⟨i, hin, rfl, HI⟩ := hrel
      by_cases hi : i < n
      · have hiI : (i : Int) < (n : Int) := by omega
        have h1l : i < l.length := by rw [HL.out.1]; exact hi
        have h1k : i < k.length := by rw [HL.out.2]; exact hi
        obtain ⟨g, rfl, hc⟩ := (HA.out.1.below HI.out.1).cellsAt (by omega)
        obtain ⟨g2, rfl, hc2⟩ := (HA.out.2.below HI.out.1).cellsAt (by omega)
        obtain ⟨x0, x1⟩ := hc i h1l
        obtain ⟨y0, y1⟩ := hc2 i h1k
        have hx := fun W => idxI W (b := g) (n := n) (c := c) (i := i) hi
        have hy := fun W => idxI W (b := g2) (n := n) (c := d) (i := i) hi
        have hneq := run_neq_it l[i] k[i]
        have HY : Hid (l[i] = k[i] → ∀ j (h1 : j < l.length) (h2 : j < k.length), j < i + 1 → l[j] = k[j]) := fun he j h1 h2 hj => by
          by_cases e : j = i
          · subst e; exact he
          · exact HI.out.2 j h1 h2 (by omega)
        have HN : Hid (l[i] ≠ k[i] → l ≠ k) := fun hne e => hne (by subst e; rfl)
        have HB : Hid (Below w.heap.size w wr) := HI.out.1
        clear hc hc2 HI
        generalize l[i] = e at x0 x1 hneq HY HN
        generalize k[i] = f at y0 y1 hneq HY HN
        unfold itA at hneq
        have HBD : Hid (∀ m, Below w.heap.size w (wr.drewN m)) := fun m => Below.drewM HB.out m
        by_cases hef : e = f
        · have he : eqI e f = true := decide_eq_true hef
          have HYY := HY.out hef
          rw [he] at hneq
          clear hef
          go_wp2_with fail
          go_quiet (fail)
          go_wp2
          go_roundw
          case rel => exact ⟨i + 1, by omega, by go_num, HBD.out _, HYY⟩
          case measure => simp only [intOf]; omega
        · have he : eqI e f = false := decide_eq_false hef
          have HNN : Hid (l ≠ k) := HN.out hef
          rw [he] at hneq
          clear hef
          go_wp2_with fail
          go_quiet (fail)
          go_wp2
          go_ret
          rw [decide_eq_false HNN.out]
          exact ⟨ret1 rfl, HBD.out _⟩
      · obtain rfl : i = n := by omega
        have HE : Hid (l = k) := List.ext_getElem (by rw [HL.out.1, HL.out.2]) fun j h1 h2 => HI.out.2 j h1 h2 (by rw [HL.out.1] at h1; exact h1)
        go_wp2
        go_ret
        rw [decide_eq_true HE.out]
        exact ⟨ret1 rfl, HI.out.1⟩
  · have hnmI : ¬ (n : Int) = (m : Int) := by omega
    have hb : ((n : Int) == (m : Int)) = false := by simp; omega
    have HN : Hid (l ≠ k) := fun e => by
      apply hnm
      rw [← HL.out.1, ← HL.out.2, e]
    go_enter Try.func8, Try.ntmps8
    go_wp2
    go_ret
    rw [decide_eq_false HN.out]
    exact ⟨ret1 rfl, Below.refl _ _⟩
end Go.Proofs.Ytjoamhcehpjepab
/- What the walks of the statements ask of view's own. -/
namespace Go.Proofs.Ytjoamhcehpjepab
open Go.RowKit
set_option linter.unusedVariables false
set_option linter.unusedSimpArgs false
/-- A world, the blocks of the view, where it lies, what is seen, where it is. -/
abbrev VwRel := World → (Nat → Prop) → Nat → List It17 → Option Nat → Prop
/-- Behind a call of a method. -/
def VwPost (D : VwRel) (R : Nat → Prop) (p : Nat) (I : List It17) (o : Option Nat) (w w' : World) : Prop := ∃ R' : Nat → Prop, D w' R' p I o ∧ (∀ k, R' k → R k ∨ w.heap.size ≤ k) ∧ Chg R w w'
/-- An entry that fits its types. -/
def WfE (e : KV) : Prop := e.1.user.size ≤ 140737488351232 ∧ e.1.seq < 18446744073709551616 ∧ e.1.kind ≤ 9223372036854775807
def WfLs (L : List (List KV)) : Prop := ∀ l ∈ L, ∀ e ∈ l, WfE e
def FewV (L : List (List KV)) : Prop := L.length ≤ 1000 ∧ (allL L).length ≤ 2932031007317 ∧ WfLs L
abbrev nilVw : Value := .pointer none
structure VwOk (D : VwRel) : Prop where
  kept : ∀ {W W' : World} {R : Nat → Prop} {p : Nat} {I : List It17} {o : Option Nat}, D W R p I o → W.heap.size ≤ W'.heap.size → (∀ k, R k → W'.heap[k]? = W.heap[k]?) → D W' R p I o
  lt : ∀ {W : World} {R : Nat → Prop} {p : Nat} {I : List It17} {o : Option Nat}, D W R p I o → ∀ k, R k → k < W.heap.size
  fit : ∀ {W : World} {R : Nat → Prop} {p : Nat} {I : List It17} {o : Option Nat}, D W R p I o → ∀ i, o = some i → i < I.length
  new : ∀ (a : Option Addr) (n c : Nat) (L : List (List KV)) (s : Nat) (w : World), LsAt w a n c L → FewV L → s < 18446744073709551616 → Calls Try.prog 6 #[.slice a n c, .int .u64 (s : Int)] w fun e w' => Below w.heap.size w w' ∧ ((RiseL L ∧ ∃ p R, e = .returned (.tuple #[at_ p, .int .i64 0]) ∧ D w' R p (seenL s (allL L)) none ∧ ∀ k, R k → w.heap.size ≤ k) ∨ (¬ RiseL L ∧ e = .returned (.tuple #[nilVw, .int .i64 160])))
  first : ∀ {w : World} {R : Nat → Prop} {p : Nat} {I : List It17} {o : Option Nat}, D w R p I o → Calls Try.prog 9 #[at_ p] w fun e w' => e = .returned (.tuple #[]) ∧ VwPost D R p I (go7 I 1 ⟨#[]⟩ o) w w'
  next : ∀ {w : World} {R : Nat → Prop} {p : Nat} {I : List It17} {o : Option Nat}, D w R p I o → Calls Try.prog 11 #[at_ p] w fun e w' => e = .returned (.tuple #[]) ∧ VwPost D R p I (go7 I 4 ⟨#[]⟩ o) w w'
  prev : ∀ {w : World} {R : Nat → Prop} {p : Nat} {I : List It17} {o : Option Nat}, D w R p I o → Calls Try.prog 12 #[at_ p] w fun e w' => e = .returned (.tuple #[]) ∧ VwPost D R p I (go7 I 5 ⟨#[]⟩ o) w w'
  at' : ∀ {w : World} {R : Nat → Prop} {p : Nat} {I : List It17} {o : Option Nat}, D w R p I o → Calls Try.prog 10 #[at_ p] w fun e w' => e = .returned (.tuple #[.agg (itA (told7 I o).1), .bool (told7 I o).2]) ∧ VwPost D R p I o w w'
end Go.Proofs.Ytjoamhcehpjepab
/- A view and what lies beside it, from call to call. -/
namespace Go.Proofs.Ytjoamhcehpjepab
open Go.RowKit
set_option linter.unusedVariables false
set_option linter.unusedSimpArgs false
/-- Since the world Wn, in which it was made: its blocks R, and blocks K that are not its own. -/
structure VwS (D : VwRel) (Wn : World) (M : Nat) (W : World) (R : Nat → Prop) (p : Nat) (L : List It17) (o : Option Nat) (K : Nat → Prop) : Prop where
  low : Below M Wn W
  top : M ≤ W.heap.size
  it : D W R p L o
  ge : ∀ k, R k → M ≤ k
  keep : ∀ k, K k → k < W.heap.size ∧ ¬ R k
section
variable {D : VwRel} {Wn W W' : World} {M : Nat} {R : Nat → Prop} {p : Nat} {L : List It17} {o o' : Option Nat} {K K' : Nat → Prop}
theorem VwS.step (h : VwS D Wn M W R p L o K) (hp : VwPost D R p L o' W W') : ∃ R', VwS D Wn M W' R' p L o' K ∧ (∀ k, K k → W'.heap[k]? = W.heap[k]?) ∧ W.heap.size ≤ W'.heap.size := by
  obtain ⟨R', h1, h2, h3⟩ := hp
  refine ⟨R', ⟨h.low.trans (h3.below h.ge h.top), Nat.le_trans h.top h3.size, h1, fun k hk => ?_, fun k hk => ⟨Nat.lt_of_lt_of_le (h.keep k hk).1 h3.size, fun hr => ?_⟩⟩, fun k hk => h3.block k (h.keep k hk).1 (h.keep k hk).2, h3.size⟩
  · rcases h2 k hk with h4 | h4
    · exact h.ge k h4
    · exact Nat.le_trans h.top h4
  · rcases h2 k hr with h4 | h4
    · exact (h.keep k hk).2 h4
    · have := (h.keep k hk).1
      omega
/-- Behind what only lays new blocks. -/
theorem VwS.below (F : VwOk D) (h : VwS D Wn M W R p L o K) (hb : Below W.heap.size W W') : VwS D Wn M W' R p L o K :=
  ⟨h.low.trans (hb.mono h.top), Nat.le_trans h.top hb.size, F.kept h.it hb.size fun k hk => hb.block k (F.lt h.it k hk), h.ge, fun k hk => ⟨Nat.lt_of_lt_of_le (h.keep k hk).1 hb.size, (h.keep k hk).2⟩⟩
/-- Behind what turns only kept blocks, and lays new ones. -/
theorem VwS.chg (F : VwOk D) (h : VwS D Wn M W R p L o K) {Q : Nat → Prop} (hc : Chg Q W W') (hQ : ∀ k, Q k → K k ∧ M ≤ k) : VwS D Wn M W' R p L o K :=
  ⟨h.low.trans (hc.below (fun k hk => (hQ k hk).2) h.top), Nat.le_trans h.top hc.size, F.kept h.it hc.size fun k hk => hc.block k (F.lt h.it k hk) (fun hq => (h.keep k (hQ k hq).1).2 hk), h.ge, fun k hk => ⟨Nat.lt_of_lt_of_le (h.keep k hk).1 hc.size, (h.keep k hk).2⟩⟩
/-- More that is kept: what was laid since. -/
theorem VwS.more (F : VwOk D) (h : VwS D Wn M W R p L o K) (h' : VwS D Wn M W' R p L o K) (hK : ∀ k, K' k → K k ∨ (W.heap.size ≤ k ∧ k < W'.heap.size)) : VwS D Wn M W' R p L o K' :=
  ⟨h'.low, h'.top, h'.it, h'.ge, fun k hk => by
    rcases hK k hk with h1 | ⟨h1, h2⟩
    · exact h'.keep k h1
    · exact ⟨h2, fun hr => by have := F.lt h.it k hr; omega⟩⟩
theorem VwS.less (h : VwS D Wn M W R p L o K) (hK : ∀ k, K' k → K k) : VwS D Wn M W R p L o K' := ⟨h.low, h.top, h.it, h.ge, fun k hk => h.keep k (hK k hk)⟩
/-- A new block. -/
theorem VwS.alloc (F : VwOk D) (h : VwS D Wn M W R p L o K) (b : Obj) : VwS D Wn M (W.alloc b) R p L o fun k => K k ∨ k = W.heap.size :=
  h.more F (h.below F ((Below.refl _ _).alloc (Nat.le_refl _) _)) fun k hk => by
    rcases hk with hk | rfl
    · exact .inl hk
    · exact .inr ⟨Nat.le_refl _, by simp⟩
theorem VwS.drew (F : VwOk D) (h : VwS D Wn M W R p L o K) : VwS D Wn M W.drew R p L o K := h.below F (Below.refl _ _).drew
theorem VwS.drewN (F : VwOk D) (h : VwS D Wn M W R p L o K) (d : Nat) : VwS D Wn M (W.drewN d) R p L o K := h.below F (Below.drewM (Below.refl _ _) d)
theorem VwS.made (h : D W' R p L o) (hb : Below M Wn W') (hM : M ≤ W'.heap.size) (hR : ∀ k, R k → M ≤ k) : VwS D Wn M W' R p L o fun _ => False := ⟨hb, hM, h, hR, fun _ hk => hk.elim⟩
end
end Go.Proofs.Ytjoamhcehpjepab
/- Rows of slices of the call's own; parts from the start; the statements' few. -/
namespace Go.Proofs.Ytjoamhcehpjepab
open Go.RowKit
set_option linter.unusedVariables false
set_option linter.unusedSimpArgs false
abbrev TRow : TypeId := 30
/-- A row of rows of entries, of the call's own: its slices. -/
structure OwnSl (W : World) (B : Nat) (a : Option Addr) (n c : Nat) (vs : List Value) : Prop where
  size : vs.length = n
  row : W.ownsRow B TRow 1 (.slice a n c) n vs
theorem infoRow : (Try.prog.info? TRow).map (fun i => (i.zero, i.size, i.bytes)) = some (some (.slice none 0 0), 1, 24) := by kernel_rfl
section
variable {w w' : World} {B : Nat} {a : Option Addr} {n c : Nat} {vs : List Value}
theorem OwnSl.nil (w : World) (B : Nat) : OwnSl w B none 0 0 [] := ⟨rfl, World.ownsRow_nil _ _ _ 1⟩
theorem OwnSl.tag (h : OwnSl w B a n c vs) {k : Nat} (hk : blkOf a = some k) : tag w k = some TRow := row_tag h.row (by rw [own_blk]; exact hk)
theorem OwnSl.ge (h : OwnSl w B a n c vs) {k : Nat} (hk : blkOf a = some k) : B ≤ k := (h.row.lt k (by rw [own_blk]; exact hk)).1
theorem OwnSl.kept (h : OwnSl w B a n c vs) (hk : ∀ k, blkOf a = some k → w'.heap[k]? = w.heap[k]?) : OwnSl w' B a n c vs := ⟨h.size, row_same h.row (fun b e => hk b (by rw [← own_blk a n c]; exact e))⟩
theorem OwnSl.below (h : OwnSl w B a n c vs) (hb : Below w.heap.size w w') : OwnSl w' B a n c vs := h.kept fun k hk => hb.block k (tag_lt (h.tag hk))
theorem OwnSl.alloc (h : OwnSl w B a n c vs) (o : Obj) : OwnSl (w.alloc o) B a n c vs := ⟨h.size, h.row.alloc o⟩
theorem OwnSl.cells (h : OwnSl w B a n c vs) : n ≤ c ∧ c ≤ maxLen ∧ (a = none → c = 0) ∧ (0 < n → ∃ g, a = some ⟨g, 0, none⟩ ∧ ∀ j, j < n → w.cell? ⟨g, j, none⟩ = vs[j]?) := by
  obtain ⟨h1, h2, h3, h4⟩ := row_addr h.row
  refine ⟨h1, h2, h3, fun hp => ?_⟩
  obtain ⟨g, rfl⟩ := h4 hp
  exact ⟨g, rfl, fun j hj => by rw [h.row.cellAt j (by omega)]⟩
end
theorem wpList_pushR (W : World) {ops : Array Oper} {rest : List Oper} {o : Oper} {a : Act} {Q : Exit → Act → World → Prop} (hgd : o.guard = none) (s x : Operand)
    (ho : o.op = .call { callee := .builtin .append, args := #[s, x], argTypes := #[22, 22] })
    (B : Nat) (a1 : Option Addr) (n1 c1 : Nat) (vs : List Value) (hs : a.eval s = .slice a1 n1 c1) (hown : OwnSl W B a1 n1 c1 vs) (v : Value) (hv : v.oneCell' = true) (g : Nat) (hg : g = W.heap.size)
    (hx : a.eval x = .slice (some ⟨g, 0, none⟩) 1 1) (hn : n1 ≤ 1000000) (hB : B ≤ W.heap.size)
    (h : ∀ a' c' w', OwnSl w' B a' (n1 + 1) c' (vs ++ [v]) → Below B W w' → (W.alloc (.cells #[v] TRow)).grownBy w' (blkOf a1) → wpList Try.prog ops Q rest (a.put o.dst (.slice a' (n1 + 1) c')) w') :
    wpList Try.prog ops Q (o :: rest) a (W.alloc (.cells #[v] TRow)) := by
  subst hg
  refine wpList_appV (W.alloc (.cells #[v] TRow)) hgd s x _ TRow ho Try.underlying22 _ 1 24 infoRow rfl (by decide) B a1 n1 c1 _ hs (hown.alloc _).row (some ⟨W.heap.size, 0, none⟩) 1 1 [v] hx (fun e => by cases e) rfl (fun ad e j u hu => ?_) (fun u hu => by rw [List.mem_singleton.1 hu]; exact hv) (by unfold maxLen; omega) (by omega) (by simp; omega) ?_
  · cases e
    rw [Addr.add_lit, Nat.zero_add, (Box.new W TRow #[v]).cell, ← Array.getElem?_toList]
    exact hu
  · intro a' c' w' hr hb hg
    exact h a' c' w' ⟨by rw [List.length_append, hown.size]; rfl, hr⟩ (((Below.refl _ _).alloc hB _).trans hb) hg
/-- A part from the start. -/
theorem ls_to {w : World} {a : Option Addr} {n c : Nat} {L : List (List KV)} (h : LsAt w a n c L) {k : Nat} (hk : k ≤ n) (hp : 0 < k) :
    (∀ W : World, (Instr.slice 22 (.slice a n c) none (some (.int .i64 (k : Int))) none).run Try.prog W = .ok (.slice a k c) W) ∧ LsAt w a k c (L.take k) := by
  have hle := h.le
  obtain ⟨b, off, rfl, hc⟩ := h.here (by omega)
  have hs := h.size
  refine ⟨fun W => ?_, by simp; omega, by omega, h.max, fun e => (by cases e), fun _ => ⟨b, off, rfl, fun i hi => ?_⟩⟩
  · have h1 : k ≤ c := by omega
    have h3 : ¬ c = 0 := by omega
    simp [Instr.slice, run_underlying Try.underlying22, go_sem, h1, h3]
  · have e : rowL (L.take k) i = rowL L i := by simp [rowL, List.getD, List.getElem?_take, hi]
    rw [e]
    exact hc i (by omega)
theorem ks_upto16 {w : World} {a : Option Addr} {n c : Nat} {l : List KV} (h : KsAt w a n c l) {k : Nat} (hk : k ≤ n) (hp : 0 < k) :
    (∀ W : World, (Instr.slice 30 (.slice a n c) none (some (.int .i64 (k : Int))) none).run Try.prog W = .ok (.slice a k c) W) ∧ KsAt w a k c (l.take k) := by
  have hle := h.le
  obtain ⟨b, off, rfl, hc⟩ := h.here (by omega)
  have hs := h.size
  refine ⟨fun W => ?_, h.upTo hk⟩
  have h1 : k ≤ c := by omega
  have h3 : ¬ c = 0 := by omega
  simp [Instr.slice, run_underlying Try.underlying30, go_sem, h1, h3]
def fewL (L : List (List KV)) : List (List KV) := (L.take 40).map fun l => l.take 200
/-- A slice that reads as a row. -/
def SlR (w : World) (v : Value) (l : List KV) : Prop := ∃ aj cj, v = .slice aj l.length cj ∧ KsAt w aj l.length cj l ∧ (aj = none → cj = 0)
theorem SlR.below {w w' : World} {v : Value} {l : List KV} (h : SlR w v l) (hb : Below w.heap.size w w') : SlR w' v l := by
  obtain ⟨aj, cj, h1, h2, h3⟩ := h
  exact ⟨aj, cj, h1, h2.below hb, h3⟩
theorem OwnSl.ls {W : World} {B : Nat} {a : Option Addr} {n c : Nat} {vs : List Value} {L : List (List KV)} (h : OwnSl W B a n c vs) (hL : L.length = n) (hr : ∀ j, j < n → ∃ v, vs[j]? = some v ∧ SlR W v (rowL L j)) : LsAt W a n c L := by
  obtain ⟨h1, h2, h3, h4⟩ := h.cells
  refine ⟨hL, h1, h2, h3, fun hp => ?_⟩
  obtain ⟨g, hg, hc⟩ := h4 hp
  refine ⟨g, 0, hg, fun i hi => ?_⟩
  obtain ⟨v, hv, aj, cj, rfl, hk⟩ := hr i hi
  exact ⟨aj, cj, by rw [Nat.zero_add, hc i hi, hv], hk⟩
theorem LsAt.row {w : World} {a : Option Addr} {n c : Nat} {L : List (List KV)} (h : LsAt w a n c L) {i : Nat} (hi : i < n) :
    ∃ (b o : Nat) (v : Value), (∀ W : World, (Instr.indexAt 22 (.slice a n c) (.int .i64 (i : Int))).run Try.prog W = .ok (.pointer (some ⟨b, o, none⟩)) W) ∧ SlR w v (rowL L i) ∧ ∀ W, Below w.heap.size w W → W.cell? ⟨b, o, none⟩ = some v := by
  obtain ⟨b, off, hx, _, hc⟩ := h.spots (by omega)
  obtain ⟨ai, ci, h1, h2, h3⟩ := hc i hi
  exact ⟨b, off + i, _, hx i hi, ⟨ai, ci, rfl, h2, h3⟩, h1⟩
theorem fewL_row {L : List (List KV)} {i : Nat} (hi : i < (L.take 40).length) : rowL (fewL L) i = (rowL (L.take 40) i).take 200 := by
  have hi2 : i < ((L.take 40).map fun l => l.take 200).length := by simpa using hi
  have h1 : ((L.take 40).map fun l => l.take 200)[i]? = some ((L.take 40)[i].take 200) := by rw [List.getElem?_map, List.getElem?_eq_getElem hi]; rfl
  have h2 : (L.take 40)[i]? = some (L.take 40)[i] := List.getElem?_eq_getElem hi
  unfold rowL fewL
  rw [List.getD_eq_getElem?_getD, List.getD_eq_getElem?_getD, h1, h2]
  rfl
set_option maxRecDepth 100000 in
set_option maxHeartbeats 4000000 in
theorem few_any (a : Option Addr) (n c : Nat) (L : List (List KV)) (w : World) (h : LsAt w a n c L) :
    Calls Try.prog 5 #[.slice a n c] w fun e w' => ∃ a' c', e = .returned (.slice a' (fewL L).length c') ∧ LsAt w' a' (fewL L).length c' (fewL L) ∧ Below w.heap.size w w' := by
  have HK : Hid (LsAt w a n c L) := h
  have hcm : c ≤ maxLen := h.max
  have hnc : n ≤ c := h.le
  have HTO : Hid (40 < n → (∀ W : World, (Instr.slice 22 (.slice a n c) none (some (.int .i64 40)) none).run Try.prog W = .ok (.slice a 40 c) W) ∧ LsAt w a 40 c (L.take 40)) := fun h40 => ls_to h (k := 40) (by omega) (by decide)
  clear h
  go_enter Try.func5, Try.ntmps5
  go_upto_if 8 with fail
  go_cut [0] (fun x wz => ∃ m : Nat, x = .slice a m c ∧ m ≤ 40 ∧ wz = w ∧ Hid (LsAt w a m c (L.take 40)))
  case first =>
    by_cases h40 : 40 < n
    · obtain ⟨hr, hl⟩ := HTO.out h40
      have HL : Hid (LsAt w a 40 c (L.take 40)) := hl
      have h40I : (40 : Int) < (n : Int) := by omega
      clear hl
      go_wp2_with fail
      go_meet
      exact ⟨40, rfl, Nat.le_refl _, rfl, HL⟩
    · have h40I : decide ((40 : Int) < (n : Int)) = false := by simp; omega
      go_wp2_with fail
      go_meet
      refine ⟨n, rfl, by omega, rfl, ?_⟩
      show LsAt w a n c (L.take 40)
      rw [List.take_of_length_le (by have := HK.out.size; omega)]
      exact HK.out
  case rest =>
    clear HTO HK
    obtain ⟨m, rfl, hm, hwe, HK⟩ := hcut
    rw [hwe]
    clear hwe
    have HS : Hid ((L.take 40).length = m) := HK.out.size
    go_wp2_with fail
    go_loopw [3, 4] (fun s3 s4 wr => ∃ (i : Nat) (a' : Option Addr) (c' : Nat), i ≤ m ∧ s4 = .int .i64 (i : Int) ∧ s3 = .slice a' i c' ∧ Hid (Below w.heap.size w wr ∧ ∃ vs, OwnSl wr w.heap.size a' i c' vs ∧ ∀ j, j < i → ∃ v, vs[j]? = some v ∧ SlR w v (rowL (fewL L) j))) (fun _ s4 _ => m - (intOf s4).toNat)
    case atStart => exact ⟨0, none, 0, Nat.zero_le _, rfl, rfl, Below.refl _ _, [], OwnSl.nil _ _, fun j hj => absurd hj (Nat.not_lt_zero _)⟩
    case round =>
      obtain ⟨i, a', c', him, rfl, rfl, HI⟩ := hrel
      by_cases hi : i < m
      · have hiI : (i : Int) < (m : Int) := by omega
        obtain ⟨b, o, v, hx, hv, hc⟩ := HK.out.row hi
        have HFR : Hid (rowL (fewL L) i = (rowL (L.take 40) i).take 200) := fewL_row (by rw [HS.out]; exact hi)
        generalize rowL (L.take 40) i = ri at hv HFR
        obtain ⟨aj, cj, rfl, hk, hb⟩ := hv
        have hcell := hc wr HI.out.1
        have HRI : Hid (KsAt w aj ri.length cj ri ∧ (aj = none → cj = 0)) := ⟨hk, hb⟩
        clear hc hk hb
        go_upto_if 23 with fail
        go_cut [5] (fun x wz => ∃ q : Nat, x = .slice aj q cj ∧ wz = wr ∧ Hid (SlR w (.slice aj q cj) (ri.take 200)))
        case first =>
          by_cases h200 : 200 < ri.length
          · obtain ⟨hr, hl⟩ := ks_upto16 HRI.out.1 (k := 200) (by omega) (by decide)
            have hI : (200 : Int) < (ri.length : Int) := by omega
            have hcj : (200 : Int) ≤ (cj : Int) := by have := HRI.out.1.le; omega
            have HL : Hid (SlR w (.slice aj 200 cj) (ri.take 200)) := ⟨aj, cj, by rw [List.length_take, Nat.min_eq_left (by omega)], by rw [List.length_take, Nat.min_eq_left (by omega)]; exact hl, HRI.out.2⟩
            clear hl
            go_wp2_with fail
            go_meet
            exact ⟨200, rfl, rfl, HL⟩
          · have hI : decide ((200 : Int) < (ri.length : Int)) = false := by simp; omega
            have HL : Hid (SlR w (.slice aj ri.length cj) (ri.take 200)) := by
              rw [List.take_of_length_le (by omega)]
              exact ⟨aj, cj, rfl, HRI.out⟩
            go_wp2_with fail
            go_meet
            exact ⟨ri.length, rfl, rfl, HL⟩
        case rest =>
          clear HRI hcell
          obtain ⟨q, rfl, hwe, HL⟩ := hcut
          rw [hwe]
          clear hwe
          obtain ⟨vs, ho, hvs⟩ := HI.out.2
          have HO : Hid (OwnSl wr w.heap.size a' i c' vs ∧ (∀ j, j < i → ∃ v, vs[j]? = some v ∧ SlR w v (rowL (fewL L) j)) ∧ Below w.heap.size w wr) := ⟨ho, hvs, HI.out.1⟩
          clear HI ho hvs
          go_wp2_with (first
            | (at_builtin; refine wpList_pushR wr rfl (.tmp 26) (.tmp 28) rfl w.heap.size a' i c' vs rfl HO.out.1 (.slice aj q cj) rfl wr.heap.size rfl rfl (by omega) HO.out.2.2.size ?_
               intro a3 c3 w3 ho3 hb3 hg3
               have H3 : Hid (Below w.heap.size w w3 ∧ OwnSl w3 w.heap.size a3 (i + 1) c3 (vs ++ [.slice aj q cj])) := ⟨HO.out.2.2.trans hb3, ho3⟩
               clear ho3 hb3 hg3))
          go_roundw
          case rel =>
            refine ⟨i + 1, a3, c3, by omega, by go_num, rfl, H3.out.1, _, H3.out.2, fun j hj => ?_⟩
            by_cases e : j = i
            · subst e
              refine ⟨_, ?_, by rw [HFR.out]; exact HL.out⟩
              rw [List.getElem?_append_right (by rw [HO.out.1.size]; exact Nat.le_refl _), HO.out.1.size, Nat.sub_self]
              rfl
            · obtain ⟨v, h1, h2⟩ := HO.out.2.1 j (by omega)
              exact ⟨v, by rw [List.getElem?_append_left (by rw [HO.out.1.size]; omega)]; exact h1, h2⟩
          case measure => simp only [intOf]; omega
      · obtain rfl : i = m := by omega
        have HE : Hid ((fewL L).length = i) := by unfold Hid fewL; rw [List.length_map]; exact HS.out
        go_wp2_with fail
        go_ret
        rw [HE.out]
        obtain ⟨hb, vs, ho, hvs⟩ := HI.out
        exact ⟨a', c', ret1 rfl, ho.ls HE.out (fun j hj => by
          obtain ⟨v, h1, h2⟩ := hvs j hj
          exact ⟨v, h1, h2.below hb⟩), hb⟩
theorem sum_mul {v : Nat → Nat} {q : Nat} : ∀ n, (∀ i, v i ≤ q) → sumV v n ≤ n * q
  | 0, _ => by simp [sumV]
  | n + 1, h => by
    have h1 := sum_mul n h
    have h2 := h n
    show sumV v n + v n ≤ (n + 1) * q
    rw [Nat.add_mul]
    omega
theorem fewL_len (L : List (List KV)) : (fewL L).length ≤ 40 := by unfold fewL; rw [List.length_map, List.length_take]; omega
theorem fewL_each (L : List (List KV)) (i : Nat) : lenL (fewL L) i ≤ 200 := by
  unfold lenL
  by_cases hi : i < (fewL L).length
  · have e : (fewL L).getD i [] = (fewL L)[i] := by simp [List.getD, hi]
    rw [e]
    simp only [fewL, List.getElem_map, List.length_take]
    omega
  · have e : (fewL L).getD i [] = [] := by simp [List.getD, List.getElem?_eq_none (Nat.not_lt.1 hi)]
    rw [e]
    simp
theorem fewL_all (L : List (List KV)) : (allL (fewL L)).length ≤ 8000 := by
  have h1 : (allL (fewL L)).length = (allP (fewL L)).length := by simp [allL]
  rw [h1, all_len]
  have h2 := sum_mul (fewL L).length (fewL_each L)
  have h3 := fewL_len L
  omega
theorem fewL_ok {L : List (List KV)} (h : WfLs L) : FewV (fewL L) := ⟨by have := fewL_len L; omega, by have := fewL_all L; omega, fun l hl e he => by
  unfold fewL at hl
  obtain ⟨k, hk, rfl⟩ := List.mem_map.1 hl
  exact h k (List.mem_of_mem_take hk) e (List.mem_of_mem_take he)⟩
end Go.Proofs.Ytjoamhcehpjepab
