/- What the walks of the statements ask of merge's own iterator. -/
import Derived.Test.YtjoamhcehpjepabQa08
import Derived.Test.YtjoamhcehpjepabQa00
import Derived.Deep.LoopGhost
import Derived.CellFam
import Derived.WalkSmall
namespace Go.Proofs.Ytjoamhcehpjepab
open Go.RowKit
set_option linter.unusedVariables false
set_option linter.unusedSimpArgs false
/-- A world, the blocks of the iterator, where it lies, its lists, where it is. -/
abbrev MgRel := World → (Nat → Prop) → Nat → List (List KV) → Option Nat → Prop
/-- Behind a call of a method. -/
def MgPost (D : MgRel) (R : Nat → Prop) (p : Nat) (L : List (List KV)) (o : Option Nat) (w w' : World) : Prop := ∃ R' : Nat → Prop, D w' R' p L o ∧ (∀ k, R' k → R k ∨ w.heap.size ≤ k) ∧ Chg R w w'
def FewL (L : List (List KV)) : Prop := L.length ≤ 1000 ∧ (allL L).length ≤ 2932031007317
abbrev nilIt : Value := .pointer none
abbrev kvV (e : KV) : Value := .agg (kvc e).toArray
structure MgOk (D : MgRel) : Prop where
  kept : ∀ {W W' : World} {R : Nat → Prop} {p : Nat} {L : List (List KV)} {o : Option Nat}, D W R p L o → W.heap.size ≤ W'.heap.size → (∀ k, R k → W'.heap[k]? = W.heap[k]?) → D W' R p L o
  lt : ∀ {W : World} {R : Nat → Prop} {p : Nat} {L : List (List KV)} {o : Option Nat}, D W R p L o → ∀ k, R k → k < W.heap.size
  fit : ∀ {W : World} {R : Nat → Prop} {p : Nat} {L : List (List KV)} {o : Option Nat}, D W R p L o → ∀ i, o = some i → i < (allL L).length
  new : ∀ (a : Option Addr) (n c : Nat) (L : List (List KV)) (w : World), LsAt w a n c L → FewL L → Calls Try.prog 13 #[.slice a n c] w fun e w' => Below w.heap.size w w' ∧ ((RiseL L ∧ ∃ p R, e = .returned (.tuple #[at_ p, .int .i64 0]) ∧ D w' R p L none ∧ ∀ k, R k → w.heap.size ≤ k) ∨ (¬ RiseL L ∧ e = .returned (.tuple #[nilIt, .int .i64 160])))
  first : ∀ {w : World} {R : Nat → Prop} {p : Nat} {L : List (List KV)} {o : Option Nat}, D w R p L o → Calls Try.prog 14 #[at_ p] w fun e w' => e = .returned (.tuple #[]) ∧ MgPost D R p L (goP (allL L) 1 kvZ.1 o) w w'
  seek : ∀ {w : World} {R : Nat → Prop} {p : Nat} {L : List (List KV)} {o : Option Nat} (k : IK), D w R p L o → Calls Try.prog 27 #[at_ p, keyV k] w fun e w' => e = .returned (.tuple #[]) ∧ MgPost D R p L (goP (allL L) 3 k o) w w'
  next : ∀ {w : World} {R : Nat → Prop} {p : Nat} {L : List (List KV)} {o : Option Nat}, D w R p L o → Calls Try.prog 25 #[at_ p] w fun e w' => e = .returned (.tuple #[]) ∧ MgPost D R p L (goP (allL L) 4 kvZ.1 o) w w'
  prev : ∀ {w : World} {R : Nat → Prop} {p : Nat} {L : List (List KV)} {o : Option Nat}, D w R p L o → Calls Try.prog 29 #[at_ p] w fun e w' => e = .returned (.tuple #[]) ∧ MgPost D R p L (goP (allL L) 5 kvZ.1 o) w w'
  at' : ∀ {w : World} {R : Nat → Prop} {p : Nat} {L : List (List KV)} {o : Option Nat}, D w R p L o → Calls Try.prog 37 #[at_ p] w fun e w' => e = .returned (.tuple #[kvV (told16 (allL L) o).1, .bool (told16 (allL L) o).2]) ∧ MgPost D R p L o w w'
end Go.Proofs.Ytjoamhcehpjepab
/- What merge's own small functions answer: an entry, which is ahead, is there one. -/
namespace Go.Proofs.Ytjoamhcehpjepab
open Go.RowKit
set_option linter.unusedVariables false
set_option linter.unusedSimpArgs false
abbrev TAl : TypeId := 47
abbrev TPl : TypeId := 49
abbrev plV (i : Nat) (j : Int) : Value := .agg #[.int .i64 (i : Int), .int .i64 j]
set_option maxRecDepth 100000 in
theorem idxA (W : World) {b off n c i : Nat} (hi : i < n) : (Instr.indexAt TAl (.slice (some ⟨b, off, none⟩) n c) (.int .i64 (i : Int))).run Try.prog W = .ok (.pointer (some ⟨b, off + i, none⟩)) W := by
  have h1 : (0 : Int) ≤ (i : Int) ∧ (i : Int) < (n : Int) := by omega
  have hsz : (sizeOf (Try.prog.elem TAl)).run Try.prog W = .ok 1 W := by kernel_rfl
  rw [run_indexAt_slice (P := Try.prog) (h := (by kernel_rfl : Try.prog.underlying TAl = some (.slice (Try.prog.elem TAl)))), if_pos h1, hsz]
  simp [Result.andThen, Addr.add_lit]
/-- Where a list lies, and what stands at a place. -/
theorem LsAt.listA {w : World} {a : Option Addr} {n c : Nat} {L : List (List KV)} (h : LsAt w a n c L) {i : Nat} (hi : i < n) :
    ∃ (b o : Nat) (ai : Option Addr) (ci : Nat), (∀ W : World, (Instr.indexAt TAl (.slice a n c) (.int .i64 (i : Int))).run Try.prog W = .ok (.pointer (some ⟨b, o, none⟩)) W) ∧
      (∀ W, Below w.heap.size w W → W.cell? ⟨b, o, none⟩ = some (.slice ai (lenL L i) ci)) ∧ KsAt w ai (lenL L i) ci (rowL L i) ∧ (ai = none → ci = 0) := by
  obtain ⟨b, off, ha, hc⟩ := h.here (by omega)
  subst ha
  obtain ⟨ai, ci, h1, h2, h3⟩ := hc i hi
  exact ⟨b, off + i, ai, ci, fun W => idxA W hi, fun W hW => by rw [hW.cell (World.block_lt_of_cell? w _ h1)]; exact h1, h2, h3⟩
theorem LsAt.placeA {w : World} {a : Option Addr} {n c : Nat} {L : List (List KV)} (h : LsAt w a n c L) {i j : Nat} (hi : i < n) (hj : j < lenL L i) :
    ∃ (b o : Nat) (ai : Option Addr) (ci q r : Nat), (∀ W : World, (Instr.indexAt TAl (.slice a n c) (.int .i64 (i : Int))).run Try.prog W = .ok (.pointer (some ⟨b, o, none⟩)) W) ∧
      (∀ W : World, (Instr.indexAt 30 (.slice ai (lenL L i) ci) (.int .i64 (j : Int))).run Try.prog W = .ok (.pointer (some ⟨q, r, none⟩)) W) ∧
      ∀ W, Below w.heap.size w W → W.cell? ⟨b, o, none⟩ = some (.slice ai (lenL L i) ci) ∧ W.cell? ⟨q, r, none⟩ = some (.string (entL L (i, j)).1.user) ∧ W.cell? ⟨q, r + 1, none⟩ = some (.int .u64 ((entL L (i, j)).1.seq : Int)) ∧ W.cell? ⟨q, r + 2, none⟩ = some (.int .i64 (entL L (i, j)).1.kind) ∧ W.cell? ⟨q, r + 3, none⟩ = some (.string (entL L (i, j)).2) := by
  obtain ⟨b, o, ai, ci, h1, h2, h3, _⟩ := h.listA hi
  obtain ⟨q, r, hx2, hq, hc2⟩ := h3.spots (Nat.lt_of_le_of_lt (Nat.zero_le _) hj)
  refine ⟨b, o, ai, ci, q, r + j * 4, h1, hx2 j hj, fun W hW => ⟨h2 W hW, ?_⟩⟩
  have := hc2 W hW j hj
  rw [rowL_at hj] at this
  exact this
set_option maxRecDepth 100000 in
theorem fieldK (W : World) (s : ByteArray) (q k : Int) (v : ByteArray) : (Instr.field TKV (.agg #[.string s, .int .u64 q, .int .i64 k, .string v]) 0).run Try.prog W = .ok (.agg #[.string s, .int .u64 q, .int .i64 k]) W := by kernel_rfl
section
variable {w : World} {a : Option Addr} {n c : Nat} {L : List (List KV)}
set_option maxRecDepth 100000 in
set_option maxHeartbeats 4000000 in
theorem entry_any (h : LsAt w a n c L) {i j : Nat} (hi : i < n) (hj : j < lenL L i) :
    Calls Try.prog 40 #[.slice a n c, plV i (j : Int)] w fun e w' => e = .returned (.agg #[.string (entL L (i, j)).1.user, .int .u64 ((entL L (i, j)).1.seq : Int), .int .i64 (entL L (i, j)).1.kind, .string (entL L (i, j)).2]) ∧ Below w.heap.size w w' := by
  obtain ⟨b, o, ai, ci, q, r, hx, hy, hz⟩ := h.placeA hi hj
  have HZ : Hid (∀ W, Below w.heap.size w W → _) := hz
  clear hz h hi hj
  generalize entL L (i, j) = en at HZ ⊢
  generalize lenL L i = li at HZ hx hy
  go_enter Try.func40, Try.ntmps40
  go_wp2_with fail
  have HK : ∀ O, (((w.alloc (.cells #[.int .i64 (i : Int), .int .i64 (j : Int)] TPl)).alloc O).drew.cell? ⟨w.heap.size, 0, none⟩ = some (.int .i64 (i : Int)) ∧ ((w.alloc (.cells #[.int .i64 (i : Int), .int .i64 (j : Int)] TPl)).alloc O).drew.cell? ⟨w.heap.size, 1, none⟩ = some (.int .i64 (j : Int)) ∧
      ((w.alloc (.cells #[.int .i64 (i : Int), .int .i64 (j : Int)] TPl)).alloc O).drew.cell? ⟨b, o, none⟩ = some (.slice ai li ci) ∧ ((w.alloc (.cells #[.int .i64 (i : Int), .int .i64 (j : Int)] TPl)).alloc O).drew.cell? ⟨q, r, none⟩ = some (.string en.1.user) ∧ ((w.alloc (.cells #[.int .i64 (i : Int), .int .i64 (j : Int)] TPl)).alloc O).drew.cell? ⟨q, r + 1, none⟩ = some (.int .u64 (en.1.seq : Int)) ∧ ((w.alloc (.cells #[.int .i64 (i : Int), .int .i64 (j : Int)] TPl)).alloc O).drew.cell? ⟨q, r + 2, none⟩ = some (.int .i64 en.1.kind) ∧ ((w.alloc (.cells #[.int .i64 (i : Int), .int .i64 (j : Int)] TPl)).alloc O).drew.cell? ⟨q, r + 3, none⟩ = some (.string en.2)) := fun O => by
    obtain ⟨z0, z1, z2, z3, z4⟩ := HZ.out _ ((((Below.refl w.heap.size w).alloc (Nat.le_refl _) (.cells #[.int .i64 (i : Int), .int .i64 (j : Int)] TPl)).alloc (by simp) O).drew)
    have hx := (Box.new w TPl #[.int .i64 (i : Int), .int .i64 (j : Int)]).alloc O
    exact ⟨hx.cell 0, hx.cell 1, z0, z1, z2, z3, z4⟩
  have HB : Hid (∀ O, Below w.heap.size w ((w.alloc (.cells #[.int .i64 (i : Int), .int .i64 (j : Int)] TPl)).alloc O).drew) := fun O => (((Below.refl w.heap.size w).alloc (Nat.le_refl _) (.cells #[.int .i64 (i : Int), .int .i64 (j : Int)] TPl)).alloc (by simp) O).drew
  have HKK : Hid (∀ O, _) := HK
  clear HZ HK
  go_region_held3 (fun V => V.cell? ⟨w.heap.size, 0, none⟩ = some (.int .i64 (i : Int)) ∧ V.cell? ⟨w.heap.size, 1, none⟩ = some (.int .i64 (j : Int)) ∧ V.cell? ⟨b, o, none⟩ = some (.slice ai li ci) ∧ V.cell? ⟨q, r, none⟩ = some (.string en.1.user) ∧ V.cell? ⟨q, r + 1, none⟩ = some (.int .u64 (en.1.seq : Int)) ∧ V.cell? ⟨q, r + 2, none⟩ = some (.int .i64 en.1.kind) ∧ V.cell? ⟨q, r + 3, none⟩ = some (.string en.2)) (exact HKK.out _) (fail)
  go_wp2
  exact bodyPost_ret (v := .agg #[.string en.1.user, .int .u64 (en.1.seq : Int), .int .i64 en.1.kind, .string en.2]) (by simp [results, Try.results40, go_sem]) rfl ⟨rfl, HB.out _⟩
set_option maxRecDepth 100000 in
set_option maxHeartbeats 4000000 in
theorem ahead_any (h : LsAt w a n c L) {p q : PlL} (hp1 : p.1 < n) (hq1 : q.1 < n) (hp : validL L p) (hq : validL L q) :
    Calls Try.prog 34 #[.slice a n c, plV p.1 (p.2 : Int), plV q.1 (q.2 : Int)] w fun e w' => e = .returned (.bool (decide (aheadL L p q))) ∧ Below w.heap.size w w' := by
  obtain ⟨i, j⟩ := p
  obtain ⟨k, l⟩ := q
  dsimp only at hp1 hq1 ⊢
  have HP : Hid (∀ W, Below w.heap.size w W → Calls Try.prog 40 #[.slice a n c, .agg #[.int .i64 (i : Int), .int .i64 (j : Int)]] W fun e w' => e = .returned (.agg #[.string (entL L (i, j)).1.user, .int .u64 ((entL L (i, j)).1.seq : Int), .int .i64 (entL L (i, j)).1.kind, .string (entL L (i, j)).2]) ∧ Below W.heap.size W w') := fun W hW => entry_any (h.below hW) hp1 hp
  have HQ : Hid (∀ W, Below w.heap.size w W → Calls Try.prog 40 #[.slice a n c, .agg #[.int .i64 (k : Int), .int .i64 (l : Int)]] W fun e w' => e = .returned (.agg #[.string (entL L (k, l)).1.user, .int .u64 ((entL L (k, l)).1.seq : Int), .int .i64 (entL L (k, l)).1.kind, .string (entL L (k, l)).2]) ∧ Below W.heap.size W w') := fun W hW => entry_any (h.below hW) hq1 hq
  have HD : Hid (decide (aheadL L (i, j) (k, l)) = if (entL L (i, j)).1.cmp (entL L (k, l)).1 = 0 then decide (i < k) else decide ((entL L (i, j)).1.cmp (entL L (k, l)).1 < 0)) := by
    unfold Hid aheadL cmpL
    by_cases e : (entL L (i, j)).1.cmp (entL L (k, l)).1 = 0
    · simp [e]
    · simp [e]
  clear h hp hq hp1 hq1
  rw [HD.out]
  generalize entL L (i, j) = eA at HP ⊢
  generalize entL L (k, l) = eB at HQ ⊢
  clear HD
  have HCP : Hid (∀ W : World, Calls Try.prog 31 #[.agg #[.string eA.1.user, .int .u64 (eA.1.seq : Int), .int .i64 eA.1.kind], .agg #[.string eB.1.user, .int .u64 (eB.1.seq : Int), .int .i64 eB.1.kind]] W fun r w' => r = .returned (.int .i64 (eA.1.cmp eB.1)) ∧ Below W.heap.size W w') := fun W => compare_any _ _ _ _ _ _ W
  generalize eA.1.cmp eB.1 = cv at HCP ⊢
  have HB : Hid (∀ W, Below (w.heap.size + 2) ((w.alloc (.cells #[.int .i64 (i : Int), .int .i64 (j : Int)] TPl)).alloc (.cells #[.int .i64 (k : Int), .int .i64 (l : Int)] TPl)) W → Below w.heap.size w W ∧ W.cell? ⟨w.heap.size, 0, none⟩ = some (.int .i64 (i : Int)) ∧ W.cell? ⟨w.heap.size, 1, none⟩ = some (.int .i64 (j : Int)) ∧ W.cell? ⟨w.heap.size + 1, 0, none⟩ = some (.int .i64 (k : Int)) ∧ W.cell? ⟨w.heap.size + 1, 1, none⟩ = some (.int .i64 (l : Int))) := fun W hW => by
    have h1 := (Box.new w TPl #[.int .i64 (i : Int), .int .i64 (j : Int)]).alloc (.cells #[.int .i64 (k : Int), .int .i64 (l : Int)] TPl)
    have h2 := Box.new (w.alloc (.cells #[.int .i64 (i : Int), .int .i64 (j : Int)] TPl)) TPl #[.int .i64 (k : Int), .int .i64 (l : Int)]
    have h1 := h1.kept (hW.block _ (by omega))
    have h2 := h2.kept (hW.block _ (by simp))
    have hs : (w.alloc (.cells #[.int .i64 (i : Int), .int .i64 (j : Int)] TPl)).heap.size = w.heap.size + 1 := by simp
    rw [hs] at h2
    exact ⟨(((Below.refl _ _).alloc (Nat.le_refl _) _).alloc (by simp) _).trans (hW.mono (by simp)), h1.cell 0, h1.cell 1, h2.cell 0, h2.cell 1⟩
  have hfa := fun W => fieldK W eA.1.user (eA.1.seq : Int) eA.1.kind eA.2
  have hfb := fun W => fieldK W eB.1.user (eB.1.seq : Int) eB.1.kind eB.2
  go_enter Try.func34, Try.ntmps34
  go_wp2_with fail
  have hsz : ((w.alloc (.cells #[.int .i64 (i : Int), .int .i64 (j : Int)] TPl)).alloc (.cells #[.int .i64 (k : Int), .int .i64 (l : Int)] TPl)).heap.size = w.heap.size + 2 := by simp
  have HB0 : Hid (Below (w.heap.size + 2) ((w.alloc (.cells #[.int .i64 (i : Int), .int .i64 (j : Int)] TPl)).alloc (.cells #[.int .i64 (k : Int), .int .i64 (l : Int)] TPl)) ((w.alloc (.cells #[.int .i64 (i : Int), .int .i64 (j : Int)] TPl)).alloc (.cells #[.int .i64 (k : Int), .int .i64 (l : Int)] TPl)).drew) := (Below.refl _ _).drew
  have HSZ : Hid (w.heap.size + 2 ≤ ((w.alloc (.cells #[.int .i64 (i : Int), .int .i64 (j : Int)] TPl)).alloc (.cells #[.int .i64 (k : Int), .int .i64 (l : Int)] TPl)).drew.heap.size) := by unfold Hid; simp
  clear hsz
  obtain ⟨_, x0, x1, y0, y1⟩ := HB.out _ HB0.out
  generalize (w.alloc (.cells #[.int .i64 (i : Int), .int .i64 (j : Int)] TPl)).alloc (.cells #[.int .i64 (k : Int), .int .i64 (l : Int)] TPl) = w1 at *
  go_region_held3 (fun V => V.cell? ⟨w.heap.size, 0, none⟩ = some (.int .i64 (i : Int)) ∧ V.cell? ⟨w.heap.size, 1, none⟩ = some (.int .i64 (j : Int)) ∧ V.cell? ⟨w.heap.size + 1, 0, none⟩ = some (.int .i64 (k : Int)) ∧ V.cell? ⟨w.heap.size + 1, 1, none⟩ = some (.int .i64 (l : Int))) (first | exact ⟨x0, x1, y0, y1⟩ | go_keep)
    (first
     | (go_at_call 40; with_reducible refine (HP.out _ (HB.out _ HB0.out).1).mono ?_; rintro _ vx ⟨rfl, hbx⟩
        have HB0 : Hid (Below (w.heap.size + 2) w1 vx) := HB0.out.trans (hbx.mono HSZ.out)
        have HSZ : Hid (w.heap.size + 2 ≤ vx.heap.size) := Nat.le_trans HSZ.out hbx.size
        obtain ⟨_, x0, x1, y0, y1⟩ := HB.out _ HB0.out
        clear hbx)
     | (go_at_call 40; with_reducible refine (HQ.out _ (HB.out _ HB0.out).1).mono ?_; rintro _ vx ⟨rfl, hbx⟩
        have HB0 : Hid (Below (w.heap.size + 2) w1 vx) := HB0.out.trans (hbx.mono HSZ.out)
        have HSZ : Hid (w.heap.size + 2 ≤ vx.heap.size) := Nat.le_trans HSZ.out hbx.size
        obtain ⟨_, x0, x1, y0, y1⟩ := HB.out _ HB0.out
        clear hbx)
     | (go_at_call 31; refine (HCP.out _).mono ?_; rintro _ vx ⟨rfl, hbx⟩
        have HB0 : Hid (Below (w.heap.size + 2) w1 vx) := HB0.out.trans (hbx.mono HSZ.out)
        have HSZ : Hid (w.heap.size + 2 ≤ vx.heap.size) := Nat.le_trans HSZ.out hbx.size
        obtain ⟨_, x0, x1, y0, y1⟩ := HB.out _ HB0.out
        clear hbx))
  by_cases hcv : cv = 0
  · go_wp2
    go_ret
    simp only [if_true]
    exact ⟨ret1 rfl, (HB.out _ HB0.out).1⟩
  · go_wp2
    go_ret
    simp only [hcv, if_false]
    exact ⟨ret1 rfl, (HB.out _ HB0.out).1⟩
set_option maxRecDepth 100000 in
set_option maxHeartbeats 4000000 in
theorem behind_any (h : LsAt w a n c L) {p q : PlL} (hp1 : p.1 < n) (hq1 : q.1 < n) (hp : validL L p) (hq : validL L q) :
    Calls Try.prog 51 #[.slice a n c, plV p.1 (p.2 : Int), plV q.1 (q.2 : Int)] w fun e w' => e = .returned (.bool (decide (aheadL L q p))) ∧ Below w.heap.size w w' := by
  obtain ⟨i, j⟩ := p
  obtain ⟨k, l⟩ := q
  dsimp only at hp1 hq1 ⊢
  have HP : Hid (∀ W, Below w.heap.size w W → Calls Try.prog 34 #[.slice a n c, .agg #[.int .i64 (k : Int), .int .i64 (l : Int)], .agg #[.int .i64 (i : Int), .int .i64 (j : Int)]] W fun e w' => e = .returned (.bool (decide (aheadL L (k, l) (i, j)))) ∧ Below W.heap.size W w') := fun W hW => ahead_any (p := (k, l)) (q := (i, j)) (h.below hW) hq1 hp1 hq hp
  clear h hp hq hp1 hq1
  generalize decide (aheadL L (k, l) (i, j)) = bb at HP ⊢
  go_enter Try.func51, Try.ntmps51
  go_wp2_with fail
  have HB : Hid (Below w.heap.size w ((w.alloc (.cells #[.int .i64 (i : Int), .int .i64 (j : Int)] TPl)).alloc (.cells #[.int .i64 (k : Int), .int .i64 (l : Int)] TPl))) := (((Below.refl _ _).alloc (Nat.le_refl _) _).alloc (by simp) _)
  refine (HP.out _ HB.out).mono ?_
  rintro _ w2 ⟨rfl, hb⟩
  have HB2 : Hid (Below w.heap.size w w2) := HB.out.trans (hb.mono HB.out.size)
  clear hb
  go_wp2
  go_ret
  exact ⟨ret1 rfl, HB2.out⟩
set_option maxRecDepth 100000 in
set_option maxHeartbeats 4000000 in
theorem has_any (h : LsAt w a n c L) {i : Nat} (hi : i < n) (x : Int) :
    Calls Try.prog 47 #[.slice a n c, plV i x] w fun e w' => e = .returned (.bool (decide (0 ≤ x ∧ x < (lenL L i : Int)))) ∧ Below w.heap.size w w' := by
  obtain ⟨b, o, ai, ci, hx, hy, _⟩ := h.listA hi
  have hB0 := (Below.refl w.heap.size w).alloc (Nat.le_refl _) (.cells #[.int .i64 (i : Int), .int .i64 x] TPl)
  have hcl : ∀ m, ((w.alloc (.cells #[.int .i64 (i : Int), .int .i64 x] TPl)).drewN m).cell? ⟨b, o, none⟩ = some (.slice ai (lenL L i) ci) := fun m => hy _ (Below.drewM hB0 m)
  have hcl0 := hy _ hB0
  have HB : Hid (∀ m, Below w.heap.size w ((w.alloc (.cells #[.int .i64 (i : Int), .int .i64 x] TPl)).drewN m)) := fun m => Below.drewM hB0 m
  clear h hi hy hB0
  generalize lenL L i = li at *
  by_cases hx0 : 0 ≤ x
  · go_enter Try.func47, Try.ntmps47
    go_wp2_with fail
    go_quiet (fail)
    go_wp2
    go_ret
    simp only [hx0, true_and]
    exact ⟨ret1 rfl, HB.out _⟩
  · have hxd : decide (0 ≤ x) = false := decide_eq_false hx0
    go_enter Try.func47, Try.ntmps47
    go_wp2_with fail
    go_quiet (fail)
    go_wp2
    go_ret
    rw [decide_eq_false (show ¬ (0 ≤ x ∧ x < (li : Int)) by omega)]
    exact ⟨ret1 rfl, HB.out _⟩
end
end Go.Proofs.Ytjoamhcehpjepab
/- Heads of lists in memory: their places, as a row of the call's own; Len, Less, Swap. -/
namespace Go.Proofs.Ytjoamhcehpjepab
open Go.RowKit
set_option linter.unusedVariables false
set_option linter.unusedSimpArgs false
abbrev THd : TypeId := 78
abbrev d0 : PlL := (0, 0)
def cellsP (l : List PlL) : List Value := l.flatMap fun p => [.int .i64 (p.1 : Int), .int .i64 (p.2 : Int)]
theorem cellsP_len (l : List PlL) : (cellsP l).length = l.length * 2 := by
  induction l with
  | nil => rfl
  | cons p l ih =>
    show ([_, _] ++ cellsP l).length = _
    rw [List.length_append, ih, List.length_cons]
    simp; omega
theorem cellsP_append (a b : List PlL) : cellsP (a ++ b) = cellsP a ++ cellsP b := by simp [cellsP]
theorem cellsP_get : ∀ (l : List PlL) (k : Nat), k < l.length → (cellsP l)[k * 2]? = some (.int .i64 ((l.getD k d0).1 : Int)) ∧ (cellsP l)[k * 2 + 1]? = some (.int .i64 ((l.getD k d0).2 : Int))
  | [], k, h => absurd h (Nat.not_lt_zero _)
  | p :: l, 0, _ => ⟨rfl, rfl⟩
  | p :: l, k + 1, h => by
    have ih := cellsP_get l k (by simpa using h)
    have e1 : (cellsP (p :: l))[(k + 1) * 2]? = (cellsP l)[k * 2]? := by
      show ([_, _] ++ cellsP l)[(k + 1) * 2]? = _
      rw [List.getElem?_append_right (by simp; omega)]
      congr 1; simp; omega
    have e2 : (cellsP (p :: l))[(k + 1) * 2 + 1]? = (cellsP l)[k * 2 + 1]? := by
      show ([_, _] ++ cellsP l)[(k + 1) * 2 + 1]? = _
      rw [List.getElem?_append_right (by simp; omega)]
      congr 1; simp; omega
    rw [e1, e2]
    simpa [List.getD] using ih
theorem cellsP_set : ∀ (l : List PlL) (k : Nat) (q : PlL), ((cellsP l).set (k * 2) (.int .i64 (q.1 : Int))).set (k * 2 + 1) (.int .i64 (q.2 : Int)) = cellsP (l.set k q)
  | [], k, q => by simp [cellsP]
  | p :: l, 0, q => rfl
  | p :: l, k + 1, q => by
    have ih := cellsP_set l k q
    show ((_ :: _ :: cellsP l).set ((k + 1) * 2) _).set ((k + 1) * 2 + 1) _ = _ :: _ :: cellsP (l.set k q)
    rw [show (k + 1) * 2 = k * 2 + 1 + 1 by omega, show k * 2 + 1 + 1 + 1 = k * 2 + 1 + 1 + 1 from rfl]
    simp only [List.set_cons_succ]
    rw [ih]
theorem cellsP_one (l : List PlL) : ∀ u ∈ cellsP l, u.oneCell' = true := by
  intro u hu
  obtain ⟨e, _, he⟩ := List.mem_flatMap.1 hu
  simp at he
  rcases he with rfl | rfl <;> rfl
/-- A row of places of the call's own. -/
structure OwnP (w : World) (B : Nat) (a : Option Addr) (n c : Nat) (l : List PlL) : Prop where
  size : l.length = n
  row : w.ownsRow B TPl 2 (.slice a n c) n (cellsP l)
section
variable {w w' : World} {B : Nat} {a : Option Addr} {n c : Nat} {l : List PlL}
theorem OwnP.nil (w : World) (B : Nat) : OwnP w B none 0 0 [] := ⟨rfl, World.ownsRow_nil _ _ _ 2⟩
theorem OwnP.kept (h : OwnP w B a n c l) (hk : ∀ k, blkOf a = some k → w'.heap[k]? = w.heap[k]?) : OwnP w' B a n c l := ⟨h.size, row_same h.row (fun b e => hk b (by rw [← own_blk a n c]; exact e))⟩
theorem OwnP.below (h : OwnP w B a n c l) (hb : Below w.heap.size w w') : OwnP w' B a n c l := ⟨h.size, row_below h.row hb⟩
theorem OwnP.tag (h : OwnP w B a n c l) {k : Nat} (hk : blkOf a = some k) : tag w k = some TPl := row_tag h.row (by rw [own_blk]; exact hk)
theorem OwnP.ge (h : OwnP w B a n c l) {k : Nat} (hk : blkOf a = some k) : B ≤ k ∧ k < w.heap.size := h.row.lt k (by rw [own_blk]; exact hk)
theorem OwnP.spots (h : OwnP w B a n c l) (hp : 0 < n) : ∃ g, a = some ⟨g, 0, none⟩ ∧ (∀ k, k < n → w.cell? ⟨g, k * 2, none⟩ = some (.int .i64 ((l.getD k d0).1 : Int)) ∧ w.cell? ⟨g, k * 2 + 1, none⟩ = some (.int .i64 ((l.getD k d0).2 : Int))) ∧ ∀ j, w.frozen? ⟨g, j, none⟩ = false := by
  obtain ⟨_, _, _, h4⟩ := row_addr h.row
  obtain ⟨g, rfl⟩ := h4 hp
  have hs := h.size
  refine ⟨g, rfl, fun k hk => ?_, fun j => h.row.frozenAt j⟩
  have := cellsP_get l k (by omega)
  exact ⟨by rw [h.row.cellAt _ (by omega)]; exact this.1, by rw [h.row.cellAt _ (by omega)]; exact this.2⟩
theorem OwnP.set {g : Nat} (h : OwnP w B (some ⟨g, 0, none⟩) n c l) (k : Nat) (q : PlL) : OwnP ((w.setCell ⟨g, k * 2, none⟩ (.int .i64 (q.1 : Int))).setCell ⟨g, k * 2 + 1, none⟩ (.int .i64 (q.2 : Int))) B (some ⟨g, 0, none⟩) n c (l.set k q) := by
  refine ⟨by rw [List.length_set]; exact h.size, ?_⟩
  rw [← cellsP_set]
  exact ((h.row.stored _ _).1.stored _ _).1
theorem OwnP.pop {g : Nat} {q : PlL} (h : OwnP w B (some ⟨g, 0, none⟩) (n + 1) c (l ++ [q])) : OwnP w B (some ⟨g, 0, none⟩) n c l := by
  have hs : l.length = n := by have := h.size; simpa using this
  refine ⟨hs, ownsRow_pop (last := cellsP [q]) (by rw [cellsP_len, hs]) ?_⟩
  rw [← cellsP_append]
  exact h.row
end
theorem infoPl : (Try.prog.info? TPl).map (fun i => (i.zero, i.size, i.bytes)) = some (some (.agg #[.int .i64 0, .int .i64 0]), 2, 16) := by kernel_rfl
set_option maxRecDepth 100000 in
theorem idxP (W : World) {b n c i : Nat} (hi : i < n) : (Instr.indexAt 76 (.slice (some ⟨b, 0, none⟩) n c) (.int .i64 (i : Int))).run Try.prog W = .ok (.pointer (some ⟨b, i * 2, none⟩)) W := by
  have h1 : (0 : Int) ≤ (i : Int) ∧ (i : Int) < (n : Int) := by omega
  have hsz : (sizeOf (Try.prog.elem 76)).run Try.prog W = .ok 2 W := by kernel_rfl
  rw [run_indexAt_slice (P := Try.prog) (h := (by kernel_rfl : Try.prog.underlying 76 = some (.slice (Try.prog.elem 76)))), if_pos h1, hsz]
  simp [Result.andThen, Addr.add_lit]
/-- Which comes first, on or back. -/
def ltD (L : List (List KV)) : Bool → PlL → PlL → Prop
  | true, p, q => aheadL L p q
  | false, p, q => aheadL L q p
instance (L : List (List KV)) (up : Bool) (p q : PlL) : Decidable (ltD L up p q) := match up with
  | true => inferInstanceAs (Decidable (aheadL L p q))
  | false => inferInstanceAs (Decidable (aheadL L q p))
theorem leL_iff (L : List (List KV)) (p q : PlL) : leL L p q = true ↔ ¬ aheadL L q p := by unfold leL; simp
theorem ltD_ord (L : List (List KV)) : ∀ up, Ord16 (ltD L up)
  | true => ⟨fun a b h => ahead_not h, fun a b c h k => (leL_iff L a c).1 (leL_trans L a b c ((leL_iff L a b).2 h) ((leL_iff L b c).2 k))⟩
  | false => ⟨fun a b h => ahead_not h, fun a b c h k => (leL_iff L c a).1 (leL_trans L c b a ((leL_iff L c b).2 k) ((leL_iff L b a).2 h))⟩
def stepI : Bool → Int
  | true => 1
  | false => -1
def fnD : Bool → Nat
  | true => 34
  | false => 51
def comesV (v : Value) : Bool → Value
  | true => .func (.func 34) #[v] #[]
  | false => .func (.func 51) #[v] #[]
/-- Heads in memory. -/
structure Hd (w : World) (B hp : Nat) (la : Option Addr) (ln lc : Nat) (up : Bool) (pa : Option Addr) (pc : Nat) (ps : List PlL) (last : PlL) : Prop where
  ge : B ≤ hp
  box : Box w hp THd #[.slice la ln lc, .int .i64 (stepI up), comesV (.slice la ln lc) up, .slice pa ps.length pc, .int .i64 (last.1 : Int), .int .i64 (last.2 : Int)]
  row : OwnP w B pa ps.length pc ps
section
variable {w w' : World} {B hp : Nat} {la : Option Addr} {ln lc : Nat} {up : Bool} {pa : Option Addr} {pc : Nat} {ps : List PlL} {last : PlL} {L : List (List KV)}
theorem Hd.kept (h : Hd w B hp la ln lc up pa pc ps last) (h1 : w'.heap[hp]? = w.heap[hp]?) (h2 : ∀ k, blkOf pa = some k → w'.heap[k]? = w.heap[k]?) : Hd w' B hp la ln lc up pa pc ps last := ⟨h.ge, h.box.kept h1, h.row.kept h2⟩
theorem Hd.below (h : Hd w B hp la ln lc up pa pc ps last) (hb : Below w.heap.size w w') : Hd w' B hp la ln lc up pa pc ps last := h.kept (hb.block _ h.box.lt) fun k e => hb.block _ (h.row.ge e).2
theorem Hd.drew (h : Hd w B hp la ln lc up pa pc ps last) : Hd w.drew B hp la ln lc up pa pc ps last := h.kept rfl fun _ _ => rfl
theorem Hd.apart (h : Hd w B hp la ln lc up pa pc ps last) {k : Nat} (hk : blkOf pa = some k) : hp ≠ k := tag_ne h.box.tag (h.row.tag hk) (by decide)
/-- All places are in the lists. -/
def InL (L : List (List KV)) (ln : Nat) (ps : List PlL) : Prop := ∀ p ∈ ps, p.1 < ln ∧ validL L p
theorem InL.getD {L : List (List KV)} {ln : Nat} {ps : List PlL} (h : InL L ln ps) {i : Nat} (hi : i < ps.length) : (ps.getD i d0).1 < ln ∧ validL L (ps.getD i d0) := h _ (by simp [List.getD, hi])
set_option maxRecDepth 100000 in
set_option maxHeartbeats 4000000 in
theorem len_any (h : Hd w B hp la ln lc up pa pc ps last) : Calls Try.prog 80 #[at_ hp] w fun e w' => e = .returned (.int .i64 (ps.length : Int)) ∧ Below w.heap.size w w' := by
  have x3 := h.box.cell 3
  simp only [List.getElem?_toArray, List.getElem?_cons_succ, List.getElem?_cons_zero] at x3
  clear h
  generalize ps.length = n at *
  go_enter Try.func80, Try.ntmps80
  go_wp2
  go_ret
  exact ⟨ret1 rfl, Below.refl _ _⟩
set_option maxRecDepth 100000 in
set_option maxHeartbeats 4000000 in
theorem less_any (h : Hd w B hp la ln lc up pa pc ps last) (hl : LsAt w la ln lc L) (hv : InL L ln ps) {i j : Nat} (hi : i < ps.length) (hj : j < ps.length) :
    Calls Try.prog 81 #[at_ hp, .int .i64 (i : Int), .int .i64 (j : Int)] w fun e w' => e = .returned (.bool (decide (ltD L up (ps.getD i d0) (ps.getD j d0)))) ∧ Below w.heap.size w w' := by
  have hvi := hv.getD hi
  have hvj := hv.getD hj
  obtain ⟨g, rfl, hc, _⟩ := h.row.spots (by omega)
  have HC : Hid (∀ W, Below w.heap.size w W → W.cell? ⟨hp, 2, none⟩ = some (comesV (.slice la ln lc) up) ∧ W.cell? ⟨hp, 3, none⟩ = some (.slice (some ⟨g, 0, none⟩) ps.length pc) ∧ W.cell? ⟨g, i * 2, none⟩ = some (.int .i64 ((ps.getD i d0).1 : Int)) ∧ W.cell? ⟨g, i * 2 + 1, none⟩ = some (.int .i64 ((ps.getD i d0).2 : Int)) ∧ W.cell? ⟨g, j * 2, none⟩ = some (.int .i64 ((ps.getD j d0).1 : Int)) ∧ W.cell? ⟨g, j * 2 + 1, none⟩ = some (.int .i64 ((ps.getD j d0).2 : Int))) := fun W hW => by
    have hx := h.below hW
    obtain ⟨g', hg, hc', _⟩ := hx.row.spots (by omega)
    simp only [Option.some.injEq, Addr.mk.injEq, and_true] at hg
    obtain rfl := hg
    exact ⟨hx.box.cell 2, hx.box.cell 3, (hc' i hi).1, (hc' i hi).2, (hc' j hj).1, (hc' j hj).2⟩
  have hxi := fun W => idxP W (b := g) (c := pc) hi
  have hxj := fun W => idxP W (b := g) (c := pc) hj
  have HA : Hid (∀ W, Below w.heap.size w W → Calls Try.prog (fnD up) #[.slice la ln lc, .agg #[.int .i64 ((ps.getD i d0).1 : Int), .int .i64 ((ps.getD i d0).2 : Int)], .agg #[.int .i64 ((ps.getD j d0).1 : Int), .int .i64 ((ps.getD j d0).2 : Int)]] W fun e w' => e = .returned (.bool (decide (ltD L up (ps.getD i d0) (ps.getD j d0)))) ∧ Below W.heap.size W w') := fun W hW => by
    cases up with
    | true => exact ahead_any (hl.below hW) hvi.1 hvj.1 hvi.2 hvj.2
    | false => exact behind_any (hl.below hW) hvi.1 hvj.1 hvi.2 hvj.2
  clear hc h hl hv hi hj hvi hvj
  generalize decide (ltD L up (ps.getD i d0) (ps.getD j d0)) = bb at HA ⊢
  generalize ps.getD i d0 = pi at *
  generalize ps.getD j d0 = pj at *
  generalize ps.length = n at *
  have HB0 : Hid (Below w.heap.size w w.drew) := (Below.refl _ _).drew
  obtain ⟨x0, x1, x2, x3, x4, x5⟩ := HC.out _ HB0.out
  cases up with
  | true =>
    unfold fnD at HA
    unfold comesV at x0
    dsimp only at HA x0
    go_enter Try.func81, Try.ntmps81
    go_wp2_with fail
    go_region_held3 (fun V => V.cell? ⟨hp, 2, none⟩ = some (.func (.func 34) #[.slice la ln lc] #[]) ∧ V.cell? ⟨hp, 3, none⟩ = some (.slice (some ⟨g, 0, none⟩) n pc) ∧ V.cell? ⟨g, i * 2, none⟩ = some (.int .i64 (pi.1 : Int)) ∧ V.cell? ⟨g, i * 2 + 1, none⟩ = some (.int .i64 (pi.2 : Int)) ∧ V.cell? ⟨g, j * 2, none⟩ = some (.int .i64 (pj.1 : Int)) ∧ V.cell? ⟨g, j * 2 + 1, none⟩ = some (.int .i64 (pj.2 : Int))) (first | exact ⟨x0, x1, x2, x3, x4, x5⟩ | go_keep)
      (first
       | (go_at_call 34; refine (HA.out _ HB0.out).mono ?_; rintro _ vx ⟨rfl, hbx⟩
          have HB0 : Hid (Below w.heap.size w vx) := HB0.out.trans (hbx.mono HB0.out.size)
          obtain ⟨x0, x1, x2, x3, x4, x5⟩ := HC.out _ HB0.out
          clear hbx))
    go_wp2
    go_ret
    exact ⟨ret1 rfl, HB0.out⟩
  | false =>
    unfold fnD at HA
    unfold comesV at x0
    dsimp only at HA x0
    go_enter Try.func81, Try.ntmps81
    go_wp2_with fail
    go_region_held3 (fun V => V.cell? ⟨hp, 2, none⟩ = some (.func (.func 51) #[.slice la ln lc] #[]) ∧ V.cell? ⟨hp, 3, none⟩ = some (.slice (some ⟨g, 0, none⟩) n pc) ∧ V.cell? ⟨g, i * 2, none⟩ = some (.int .i64 (pi.1 : Int)) ∧ V.cell? ⟨g, i * 2 + 1, none⟩ = some (.int .i64 (pi.2 : Int)) ∧ V.cell? ⟨g, j * 2, none⟩ = some (.int .i64 (pj.1 : Int)) ∧ V.cell? ⟨g, j * 2 + 1, none⟩ = some (.int .i64 (pj.2 : Int))) (first | exact ⟨x0, x1, x2, x3, x4, x5⟩ | go_keep)
      (first
       | (go_at_call 51; refine (HA.out _ HB0.out).mono ?_; rintro _ vx ⟨rfl, hbx⟩
          have HB0 : Hid (Below w.heap.size w vx) := HB0.out.trans (hbx.mono HB0.out.size)
          obtain ⟨x0, x1, x2, x3, x4, x5⟩ := HC.out _ HB0.out
          clear hbx))
    go_wp2
    go_ret
    exact ⟨ret1 rfl, HB0.out⟩
theorem Hd.swapped {g : Nat} {W : World} {i j : Nat} (h : Hd w B hp la ln lc up (some ⟨g, 0, none⟩) pc ps last) (hW : Below w.heap.size w W) (hs : W.heap.size = w.heap.size) :
    Hd ((((W.setCell ⟨g, i * 2, none⟩ (.int .i64 ((ps.getD j d0).1 : Int))).setCell ⟨g, i * 2 + 1, none⟩ (.int .i64 ((ps.getD j d0).2 : Int))).setCell ⟨g, j * 2, none⟩ (.int .i64 ((ps.getD i d0).1 : Int))).setCell ⟨g, j * 2 + 1, none⟩ (.int .i64 ((ps.getD i d0).2 : Int))) B hp la ln lc up (some ⟨g, 0, none⟩) pc (swL d0 ps i j) last ∧
    Chg (fun k => blkOf (some ⟨g, 0, none⟩) = some k) w ((((W.setCell ⟨g, i * 2, none⟩ (.int .i64 ((ps.getD j d0).1 : Int))).setCell ⟨g, i * 2 + 1, none⟩ (.int .i64 ((ps.getD j d0).2 : Int))).setCell ⟨g, j * 2, none⟩ (.int .i64 ((ps.getD i d0).1 : Int))).setCell ⟨g, j * 2 + 1, none⟩ (.int .i64 ((ps.getD i d0).2 : Int))) := by
  have h1 := h.below hW
  have hne : hp ≠ g := h.apart rfl
  refine ⟨⟨h1.ge, ?_, ?_⟩, ((((Chg.of (R := fun k => blkOf (some ⟨g, 0, none⟩) = some k) hW).set (p := g) (fun _ => rfl) _ _).set (p := g) (fun _ => rfl) _ _).set (p := g) (fun _ => rfl) _ _).set (p := g) (fun _ => rfl) _ _⟩
  · rw [swL_len]
    exact (((h1.box.other hne _ _).other hne _ _).other hne _ _).other hne _ _
  · rw [swL_len]
    exact (h1.row.set i (ps.getD j d0)).set j (ps.getD i d0)
set_option maxRecDepth 100000 in
set_option maxHeartbeats 4000000 in
theorem swap_any (h : Hd w B hp la ln lc up pa pc ps last) {i j : Nat} (hi : i < ps.length) (hj : j < ps.length) :
    Calls Try.prog 84 #[at_ hp, .int .i64 (i : Int), .int .i64 (j : Int)] w fun e w' => e = .returned (.tuple #[]) ∧ Hd w' B hp la ln lc up pa pc (swL d0 ps i j) last ∧ Chg (fun k => blkOf pa = some k) w w' := by
  obtain ⟨g, rfl, hc, hf⟩ := h.row.spots (by omega)
  have x3 := h.box.cell 3
  simp only [List.getElem?_toArray, List.getElem?_cons_succ, List.getElem?_cons_zero] at x3
  obtain ⟨x4, x5⟩ := hc i hi
  obtain ⟨x6, x7⟩ := hc j hj
  have hxi := fun W => idxP W (b := g) (c := pc) hi
  have hxj := fun W => idxP W (b := g) (c := pc) hj
  have HS : Hid (_) := h.swapped (i := i) (j := j) (W := w) (Below.refl _ _) rfl
  clear h hc hi hj
  generalize swL d0 ps i j = qs at *
  by_cases hij : i = j
  · subst hij
    generalize ps.getD i d0 = pi at *
    generalize ps.length = n at *
    clear x6 x7 hxj
    go_enter Try.func84, Try.ntmps84
    go_wp2_with fail
    go_region
    all_goals go_wp2
    go_end0
    exact ⟨rfl, HS.out.1.drew, HS.out.2.drew⟩
  · generalize ps.getD i d0 = pi at *
    generalize ps.getD j d0 = pj at *
    generalize ps.length = n at *
    go_enter Try.func84, Try.ntmps84
    go_wp2_with fail
    go_region
    all_goals go_wp2
    go_end0
    exact ⟨rfl, HS.out.1.drew, HS.out.2.drew⟩
end
theorem step_pushP {ops : Array Oper} {o : Oper} {a : Act} {K : Act → World → Prop} {Q : Exit → Act → World → Prop} {E : Prop} (W : World) (hgd : o.guard = none) (s x : Operand)
    (ho : o.op = .call { callee := .builtin .append, args := #[s, x], argTypes := #[76, 76] })
    (B : Nat) (a1 : Option Addr) (n1 c1 : Nat) (l : List PlL) (hs : a.eval s = .slice a1 n1 c1) (hown : OwnP W B a1 n1 c1 l)
    (v : PlL) (cv : Array Value) (hcv : cv.toList = cellsP [v]) (g : Nat) (hg : g = W.heap.size) (hx : a.eval x = .slice (some ⟨g, 0, none⟩) 1 1)
    (hb : n1 + 1 ≤ 2000000000000) (hB : B ≤ W.heap.size)
    (h : ∀ a' c' w', OwnP w' B a' (n1 + 1) c' (l ++ [v]) → Below B W w' → (W.alloc (.cells cv TPl)).grownBy w' (blkOf a1) → K (a.put o.dst (.slice a' (n1 + 1) c')) w') :
    if Region.wanted o (yielded ops a.tmps) = true then Oper.wp Try.prog o a (W.alloc (.cells cv TPl)) K Q else E := by
  subst hg
  have hw : Region.wanted o (yielded ops a.tmps) = true := by simp [Region.wanted, hgd]
  rw [if_pos hw]
  obtain ⟨i, hi, hz0, hz1, hz2⟩ := info_parts infoPl
  have hl := hown.size
  have hown2 : (W.alloc (.cells cv TPl)).ownsRow B TPl 2 (.slice a1 n1 c1) n1 (cellsP l) := hown.row.alloc _
  have hlt : ∀ k, (Value.slice a1 n1 c1).ownBlock = some k → B ≤ k := fun k hk => (hown.row.lt k hk).1
  have hB2 : B ≤ (W.alloc (.cells cv TPl)).heap.size := by simp; omega
  have hcell : ∀ j u, (cellsP [v])[j]? = some u → (W.alloc (.cells cv TPl)).cell? ((⟨W.heap.size, 0, none⟩ : Addr).add j) = some u := by
    intro j u hu
    rw [Addr.add_lit, Nat.zero_add, (Box.new W TPl cv).cell, ← Array.getElem?_toList, hcv]
    exact hu
  obtain ⟨v', w', hr, h2, h3, h4, h5⟩ := run_append_own_at (P := Try.prog) (W.alloc (.cells cv TPl)) B 76 o.type TPl i _ 2 16 Try.underlying76 hi hz0 hz1 hz2 rfl (by decide) _ n1 _ hown2 ⟨W.heap.size, 0, none⟩ 1 1 (cellsP [v]) (by simp [cellsP]) hcell (cellsP_one _) (by unfold maxLen; omega) (by omega) hB2
  unfold Oper.wp execOp
  simp only [ho, resolve, invoke, builtin, Sem.run_bind, Sem.run_pure, Result.andThen_ok, List.map_toArray, List.map_cons, List.map_nil, hs, hx, hr]
  obtain ⟨a', c', rfl⟩ := slice_of_row h2
  refine h a' c' w' ⟨by rw [List.length_append]; simp; omega, ?_⟩ (((Below.refl _ _).alloc hB _).trans ((Below.refl B _).grown h3 hB2 hlt)) (by rw [← own_blk a1 n1 c1]; exact h3)
  rw [cellsP_append]
  exact h2
set_option maxRecDepth 100000 in
theorem assertP (W : World) (i : Nat) (j : Int) : (Instr.typeAssert (.iface TPl (.agg #[.int .i64 (i : Int), .int .i64 j])) 20 TPl false).run Try.prog W = .ok (.agg #[.int .i64 (i : Int), .int .i64 j]) W := by kernel_rfl
/-- A place behind all. -/
theorem Hd.pushed {W w3 : World} {B hp : Nat} {la : Option Addr} {ln lc : Nat} {up : Bool} {pa pa' : Option Addr} {pc pc' : Nat} {ps : List PlL} {last q : PlL} {cv : Array Value}
    (h : Hd W B hp la ln lc up pa pc ps last) (ho : OwnP w3 B pa' (ps.length + 1) pc' (ps ++ [q])) (hg : (W.alloc (.cells cv TPl)).grownBy w3 (blkOf pa)) (hb : Below B W w3) :
    Hd (w3.setCell ⟨hp, 3, none⟩ (.slice pa' (ps.length + 1) pc')) B hp la ln lc up pa' pc' (ps ++ [q]) last ∧ Below B W (w3.setCell ⟨hp, 3, none⟩ (.slice pa' (ps.length + 1) pc')) := by
  have hx : Box w3 hp THd _ := h.box.kept ((hg.block hp (by simp; have := h.box.lt; omega) (fun e => h.apart e.symm rfl)).trans (Below.heap_alloc W _ hp h.box.lt))
  refine ⟨⟨h.ge, ?_, ?_⟩, hb.setCell (p := ⟨hp, 3, none⟩) h.ge _⟩
  · rw [List.length_append]
    exact (hx.set 3 _).eq (by simp)
  · rw [List.length_append]
    exact ho.kept fun k hk => Below.heap_setCell _ _ _ _ (fun e => by
      have h1 := ho.tag hk
      rw [e, hx.tag] at h1
      exact absurd (Option.some.inj h1) (by decide))
set_option maxRecDepth 100000 in
set_option maxHeartbeats 4000000 in
theorem hpush_any {w : World} {B hp : Nat} {la : Option Addr} {ln lc : Nat} {up : Bool} {pa : Option Addr} {pc : Nat} {ps : List PlL} {last : PlL} (h : Hd w B hp la ln lc up pa pc ps last) (q : PlL) (hn : ps.length + 1 ≤ 2000000000000) (hB : B ≤ w.heap.size) :
    Calls Try.prog 83 #[at_ hp, .iface TPl (.agg #[.int .i64 (q.1 : Int), .int .i64 (q.2 : Int)])] w fun e w' => e = .returned (.tuple #[]) ∧ ∃ pa' pc', Hd w' B hp la ln lc up pa' pc' (ps ++ [q]) last ∧ Below B w w' := by
  have x3 := h.box.cell 3
  have xs := h.box.soft 3
  simp only [List.getElem?_toArray, List.getElem?_cons_succ, List.getElem?_cons_zero] at x3
  have HH : Hid (Hd w B hp la ln lc up pa pc ps last) := h
  clear h
  have hta := fun W => assertP W q.1 (q.2 : Int)
  go_enter Try.func83, Try.ntmps83
  go_wp2_with fail
  go_upto_region 0 with fail
  have hmix : Try.prog.follows Departure.mixedOrders = true := by kernel_rfl
  refine wp_region_noPanic ?_
  refine wp_region_held_drew (S := fun _ => True) hmix trivial (fun hHeld => ?_)
  refine wpAnyH_take (i := 0) (v := ?_) rfl (by kernel_rfl) (by kernel_rfl) (by kernel_rfl) (fun _ _ _ h => h) (Or.inl ⟨by rfl, ?_⟩) hHeld ?_
  rotate_left
  · intro w hSw
    try dsimp only at hSw
    go_simp
    try with_reducible rfl
  try simp only [Act.put, List.getElem_toArray, List.getElem_cons_succ, List.getElem_cons_zero, Array.getInternal_eq_getElem, List.setIfInBounds_toArray, List.set_cons_zero, List.set_cons_succ]
  refine wpAnyH_take (i := 1) (v := ?_) rfl (by kernel_rfl) (by kernel_rfl) (by kernel_rfl) (fun _ _ _ h => h) (Or.inl ⟨by rfl, ?_⟩) hHeld ?_
  rotate_left
  · intro w hSw
    try dsimp only at hSw
    go_simp
    try with_reducible rfl
  try simp only [Act.put, List.getElem_toArray, List.getElem_cons_succ, List.getElem_cons_zero, Array.getInternal_eq_getElem, List.setIfInBounds_toArray, List.set_cons_zero, List.set_cons_succ]
  refine wpAnyH_take (i := 2) (v := ?_) rfl (by kernel_rfl) (by kernel_rfl) (by kernel_rfl) (fun _ _ _ h => h) (Or.inl ⟨by rfl, ?_⟩) hHeld ?_
  rotate_left
  · intro w hSw
    try dsimp only at hSw
    go_simp
    try with_reducible rfl
  try simp only [Act.put, List.getElem_toArray, List.getElem_cons_succ, List.getElem_cons_zero, Array.getInternal_eq_getElem, List.setIfInBounds_toArray, List.set_cons_zero, List.set_cons_succ]
  refine wpAnyH_take (i := 3) (v := ?_) rfl (by kernel_rfl) (by kernel_rfl) (by kernel_rfl) (fun _ _ _ h => h) (Or.inl ⟨by rfl, ?_⟩) hHeld ?_
  rotate_left
  · intro w hSw
    try dsimp only at hSw
    go_simp
    try with_reducible rfl
  try simp only [Act.put, List.getElem_toArray, List.getElem_cons_succ, List.getElem_cons_zero, Array.getInternal_eq_getElem, List.setIfInBounds_toArray, List.set_cons_zero, List.set_cons_succ]
  refine wpAnyH_take (i := 5) (v := ?_) rfl (by kernel_rfl) (by kernel_rfl) (by kernel_rfl) (fun _ _ _ h => h) (Or.inl ⟨by rfl, ?_⟩) hHeld ?_
  rotate_left
  · intro w hSw
    try dsimp only at hSw
    go_simp
    try with_reducible rfl
  try simp only [Act.put, List.getElem_toArray, List.getElem_cons_succ, List.getElem_cons_zero, Array.getInternal_eq_getElem, List.setIfInBounds_toArray, List.set_cons_zero, List.set_cons_succ]
  refine wpAnyH_take (i := 6) (v := ?_) rfl (by kernel_rfl) (by kernel_rfl) (by kernel_rfl) (fun _ _ _ h => h) (Or.inl ⟨by rfl, ?_⟩) hHeld ?_
  rotate_left
  · intro w hSw
    try dsimp only at hSw
    go_simp
    try with_reducible rfl
  try simp only [Act.put, List.getElem_toArray, List.getElem_cons_succ, List.getElem_cons_zero, Array.getInternal_eq_getElem, List.setIfInBounds_toArray, List.set_cons_zero, List.set_cons_succ]
  refine wpAnyH_ready (rs := [4, 7]) (by kernel_rfl) (by simp) ?_
  refine AllReadyH.cons rfl (fun K hK => ?_) ?_
  · skip
    go_simp
    refine hK.out _ _ trivial (fun hHeld => ?_)
    clear hK K
    try simp only [Act.put, List.getElem_toArray, List.getElem_cons_succ, List.getElem_cons_zero, Array.getInternal_eq_getElem, List.setIfInBounds_toArray, List.set_cons_zero, List.set_cons_succ]
    refine wpAnyH_ready (rs := [7]) (by kernel_rfl) (by simp) ?_
    refine AllReadyH.cons rfl (fun K hK => ?_) (AllReadyH.nil)
    go_simp
    refine hK.out _ _ trivial (fun hHeld => ?_)
    clear hK K
    try simp only [Act.put, List.getElem_toArray, List.getElem_cons_succ, List.getElem_cons_zero, Array.getInternal_eq_getElem, List.setIfInBounds_toArray, List.set_cons_zero, List.set_cons_succ]
    refine wpAnyH_ready (rs := [8]) (by kernel_rfl) (by simp) ?_
    refine AllReadyH.cons rfl (fun K hK => ?_) (AllReadyH.nil)
    refine step_pushP w.drew rfl (.tmp 8) (.tmp 11) rfl B pa ps.length pc ps (by simp [Act.eval]) HH.out.drew.row q #[.int .i64 (q.1 : Int), .int .i64 (q.2 : Int)] rfl w.drew.heap.size rfl (by simp [Act.eval]) hn hB ?_
    intro a3 c3 w3 ho3 hb3 hg3
    have HF : Hid (_) := HH.out.drew.pushed ho3 hg3 hb3
    have hx : Box w3 hp THd _ := HH.out.box.kept ((hg3.block hp (by simp; have := HH.out.box.lt; exact Nat.lt_succ_of_lt this) (fun e => HH.out.apart e.symm rfl)).trans (Below.heap_alloc w.drew _ hp HH.out.box.lt))
    have z3 := hx.cell 3
    simp only [List.getElem?_toArray, List.getElem?_cons_succ, List.getElem?_cons_zero] at z3
    have zs := hx.soft 3
    clear hx ho3 hb3 hg3
    refine hK.out _ _ trivial (fun hHeld => ?_)
    clear hK K
    try simp only [Act.put, List.getElem_toArray, List.getElem_cons_succ, List.getElem_cons_zero, Array.getInternal_eq_getElem, List.setIfInBounds_toArray, List.set_cons_zero, List.set_cons_succ]
    refine wpAnyH_take (i := 9) (v := ?_) rfl (by kernel_rfl) (by kernel_rfl) (by kernel_rfl) (fun _ _ _ h => h) (Or.inl ⟨by rfl, ?_⟩) hHeld ?_
    rotate_left
    · intro w hSw
      try dsimp only at hSw
      go_simp
      try with_reducible rfl
    try simp only [Act.put, List.getElem_toArray, List.getElem_cons_succ, List.getElem_cons_zero, Array.getInternal_eq_getElem, List.setIfInBounds_toArray, List.set_cons_zero, List.set_cons_succ]
    refine wpAnyH_take (i := 10) (v := ?_) rfl (by kernel_rfl) (by kernel_rfl) (by kernel_rfl) (fun _ _ _ h => h) (Or.inl ⟨by rfl, ?_⟩) hHeld ?_
    rotate_left
    · intro w hSw
      try dsimp only at hSw
      go_simp
      try with_reducible rfl
    try simp only [Act.put, List.getElem_toArray, List.getElem_cons_succ, List.getElem_cons_zero, Array.getInternal_eq_getElem, List.setIfInBounds_toArray, List.set_cons_zero, List.set_cons_succ]
    refine wpAnyH_ready (rs := [11]) (by kernel_rfl) (by simp) ?_
    refine AllReadyH.cons rfl (fun K hK => ?_) (AllReadyH.nil)
    go_simp
    refine hK.out _ _ trivial (fun hHeld => ?_)
    clear hK K
    try simp only [Act.put, List.getElem_toArray, List.getElem_cons_succ, List.getElem_cons_zero, Array.getInternal_eq_getElem, List.setIfInBounds_toArray, List.set_cons_zero, List.set_cons_succ]
    refine wpAnyH_done (by kernel_rfl) ?_ _
    refine NoPanic.normal ?_
    try go_wp2
    go_end0
    exact ⟨rfl, a3, c3, HF.out.1, ((Below.refl B w).drew).trans HF.out.2⟩
  refine AllReadyH.cons rfl (fun K hK => ?_) (AllReadyH.nil)
  go_simp
  refine hK.out _ _ trivial (fun hHeld => ?_)
  clear hK K
  try simp only [Act.put, List.getElem_toArray, List.getElem_cons_succ, List.getElem_cons_zero, Array.getInternal_eq_getElem, List.setIfInBounds_toArray, List.set_cons_zero, List.set_cons_succ]
  have y3 : (w.alloc (.cells #[.int .i64 (q.1 : Int), .int .i64 (q.2 : Int)] TPl)).cell? ⟨hp, 3, none⟩ = some (.slice pa ps.length pc) := (HH.out.box.alloc _).cell 3
  refine wpAnyH_ready (rs := [4]) (by kernel_rfl) (by simp) ?_
  refine AllReadyH.cons rfl (fun K hK => ?_) (AllReadyH.nil)
  go_simp
  refine hK.out _ _ trivial (fun hHeld => ?_)
  clear hK K
  try simp only [Act.put, List.getElem_toArray, List.getElem_cons_succ, List.getElem_cons_zero, Array.getInternal_eq_getElem, List.setIfInBounds_toArray, List.set_cons_zero, List.set_cons_succ]
  refine wpAnyH_ready (rs := [8]) (by kernel_rfl) (by simp) ?_
  refine AllReadyH.cons rfl (fun K hK => ?_) (AllReadyH.nil)
  refine step_pushP w.drew rfl (.tmp 8) (.tmp 11) rfl B pa ps.length pc ps (by simp [Act.eval]) HH.out.drew.row q #[.int .i64 (q.1 : Int), .int .i64 (q.2 : Int)] rfl w.drew.heap.size rfl (by simp [Act.eval]) hn hB ?_
  intro a3 c3 w3 ho3 hb3 hg3
  have HF : Hid (_) := HH.out.drew.pushed ho3 hg3 hb3
  have hx : Box w3 hp THd _ := HH.out.box.kept ((hg3.block hp (by simp; have := HH.out.box.lt; exact Nat.lt_succ_of_lt this) (fun e => HH.out.apart e.symm rfl)).trans (Below.heap_alloc w.drew _ hp HH.out.box.lt))
  have z3 := hx.cell 3
  simp only [List.getElem?_toArray, List.getElem?_cons_succ, List.getElem?_cons_zero] at z3
  have zs := hx.soft 3
  clear hx ho3 hb3 hg3
  refine hK.out _ _ trivial (fun hHeld => ?_)
  clear hK K
  try simp only [Act.put, List.getElem_toArray, List.getElem_cons_succ, List.getElem_cons_zero, Array.getInternal_eq_getElem, List.setIfInBounds_toArray, List.set_cons_zero, List.set_cons_succ]
  refine wpAnyH_take (i := 9) (v := ?_) rfl (by kernel_rfl) (by kernel_rfl) (by kernel_rfl) (fun _ _ _ h => h) (Or.inl ⟨by rfl, ?_⟩) hHeld ?_
  rotate_left
  · intro w hSw
    try dsimp only at hSw
    go_simp
    try with_reducible rfl
  try simp only [Act.put, List.getElem_toArray, List.getElem_cons_succ, List.getElem_cons_zero, Array.getInternal_eq_getElem, List.setIfInBounds_toArray, List.set_cons_zero, List.set_cons_succ]
  refine wpAnyH_take (i := 10) (v := ?_) rfl (by kernel_rfl) (by kernel_rfl) (by kernel_rfl) (fun _ _ _ h => h) (Or.inl ⟨by rfl, ?_⟩) hHeld ?_
  rotate_left
  · intro w hSw
    try dsimp only at hSw
    go_simp
    try with_reducible rfl
  try simp only [Act.put, List.getElem_toArray, List.getElem_cons_succ, List.getElem_cons_zero, Array.getInternal_eq_getElem, List.setIfInBounds_toArray, List.set_cons_zero, List.set_cons_succ]
  refine wpAnyH_ready (rs := [11]) (by kernel_rfl) (by simp) ?_
  refine AllReadyH.cons rfl (fun K hK => ?_) (AllReadyH.nil)
  go_simp
  refine hK.out _ _ trivial (fun hHeld => ?_)
  clear hK K
  try simp only [Act.put, List.getElem_toArray, List.getElem_cons_succ, List.getElem_cons_zero, Array.getInternal_eq_getElem, List.setIfInBounds_toArray, List.set_cons_zero, List.set_cons_succ]
  refine wpAnyH_done (by kernel_rfl) ?_ _
  refine NoPanic.normal ?_
  try go_wp2
  go_end0
  exact ⟨rfl, a3, c3, HF.out.1, ((Below.refl B w).drew).trans HF.out.2⟩
end Go.Proofs.Ytjoamhcehpjepab
