/- What merge's own small functions answer: an entry, which is ahead, is there one. -/
import Derived.Test.YtfijibengmgegaaQa06
import Derived.Test.YtfijibengmgegaaQa01
namespace Go.Proofs.Ytfijibengmgegaa
open Go.RowKit
set_option linter.unusedVariables false
set_option linter.unusedSimpArgs false
abbrev TAl : TypeId := 52
abbrev TPl : TypeId := 55
abbrev plV (i : Nat) (j : Int) : Value := .agg #[.int .i64 (i : Int), .int .i64 j]
set_option maxRecDepth 100000 in
theorem idxA (W : World) {b off n c i : Nat} (hi : i < n) : (Instr.indexAt TAl (.slice (some ⟨b, off, none⟩) n c) (.int .i64 (i : Int))).run Try.prog W = .ok (.pointer (some ⟨b, off + i, none⟩)) W := by
  have h1 : (0 : Int) ≤ (i : Int) ∧ (i : Int) < (n : Int) := by omega
  have hsz : (sizeOf (Try.prog.elem TAl)).run Try.prog W = .ok 1 W := by kernel_rfl
  rw [run_indexAt_slice (P := Try.prog) (h := (by kernel_rfl : Try.prog.underlying TAl = some (.slice (Try.prog.elem TAl)))), if_pos h1, hsz]
  simp [Result.andThen, Addr.add_lit]
/-- Where a list lies, and what stands at a place. -/
theorem LsAt.listA {w : World} {a : Option Addr} {n c : Nat} {L : List (List KV)} (h : LsAt w a n c L) {i : Nat} (hi : i < n) :
    ∃ (b o : Nat) (ai : Option Addr) (ci : Nat), (∀ W : World, (Instr.indexAt TAl (.slice a n c) (.int .i64 (i : Int))).run Try.prog W = .ok (.pointer (some ⟨b, o, none⟩)) W) ∧
      (∀ W, Below w.heap.size w W → W.cell? ⟨b, o, none⟩ = some (.slice ai (lenL L i) ci)) ∧ KsAt w ai (lenL L i) ci (rowL L i) ∧ (ai = none → ci = 0) := by
  obtain ⟨b, off, ha, hc⟩ := h.here (by omega)
  subst ha
  obtain ⟨ai, ci, h1, h2, h3⟩ := hc i hi
  exact ⟨b, off + i, ai, ci, fun W => idxA W hi, fun W hW => by rw [hW.cell (World.block_lt_of_cell? w _ h1)]; exact h1, h2, h3⟩
theorem LsAt.placeA {w : World} {a : Option Addr} {n c : Nat} {L : List (List KV)} (h : LsAt w a n c L) {i j : Nat} (hi : i < n) (hj : j < lenL L i) :
    ∃ (b o : Nat) (ai : Option Addr) (ci q r : Nat), (∀ W : World, (Instr.indexAt TAl (.slice a n c) (.int .i64 (i : Int))).run Try.prog W = .ok (.pointer (some ⟨b, o, none⟩)) W) ∧
      (∀ W : World, (Instr.indexAt 26 (.slice ai (lenL L i) ci) (.int .i64 (j : Int))).run Try.prog W = .ok (.pointer (some ⟨q, r, none⟩)) W) ∧
      ∀ W, Below w.heap.size w W → W.cell? ⟨b, o, none⟩ = some (.slice ai (lenL L i) ci) ∧ W.cell? ⟨q, r, none⟩ = some (.string (entL L (i, j)).1.user) ∧ W.cell? ⟨q, r + 1, none⟩ = some (.int .u64 ((entL L (i, j)).1.seq : Int)) ∧ W.cell? ⟨q, r + 2, none⟩ = some (.int .i64 (entL L (i, j)).1.kind) ∧ W.cell? ⟨q, r + 3, none⟩ = some (.string (entL L (i, j)).2) := by
  obtain ⟨b, o, ai, ci, h1, h2, h3, _⟩ := h.listA hi
  obtain ⟨q, r, hx2, hq, hc2⟩ := h3.spots (Nat.lt_of_le_of_lt (Nat.zero_le _) hj)
  refine ⟨b, o, ai, ci, q, r + j * 4, h1, hx2 j hj, fun W hW => ⟨h2 W hW, ?_⟩⟩
  have := hc2 W hW j hj
  rw [rowL_at hj] at this
  exact this
set_option maxRecDepth 100000 in
theorem fieldK (W : World) (s : ByteArray) (q k : Int) (v : ByteArray) : (Instr.field TKV (.agg #[.string s, .int .u64 q, .int .i64 k, .string v]) 0).run Try.prog W = .ok (.agg #[.string s, .int .u64 q, .int .i64 k]) W := by kernel_rfl
section
variable {w : World} {a : Option Addr} {n c : Nat} {L : List (List KV)}
set_option maxRecDepth 100000 in
set_option maxHeartbeats 4000000 in
theorem entry_any (h : LsAt w a n c L) {i j : Nat} (hi : i < n) (hj : j < lenL L i) :
    Calls Try.prog 27 #[.slice a n c, plV i (j : Int)] w fun e w' => e = .returned (.agg #[.string (entL L (i, j)).1.user, .int .u64 ((entL L (i, j)).1.seq : Int), .int .i64 (entL L (i, j)).1.kind, .string (entL L (i, j)).2]) ∧ Below w.heap.size w w' := by
  obtain ⟨b, o, ai, ci, q, r, hx, hy, hz⟩ := h.placeA hi hj
  have HZ : Hid (∀ W, Below w.heap.size w W → _) := hz
  clear hz h hi hj
  generalize entL L (i, j) = en at HZ ⊢
  generalize lenL L i = li at HZ hx hy
  go_enter Try.func27, Try.ntmps27
  go_wp2_with fail
  have HK : ∀ O, (((w.alloc (.cells #[.int .i64 (i : Int), .int .i64 (j : Int)] TPl)).alloc O).drew.cell? ⟨w.heap.size, 0, none⟩ = some (.int .i64 (i : Int)) ∧ ((w.alloc (.cells #[.int .i64 (i : Int), .int .i64 (j : Int)] TPl)).alloc O).drew.cell? ⟨w.heap.size, 1, none⟩ = some (.int .i64 (j : Int)) ∧
      ((w.alloc (.cells #[.int .i64 (i : Int), .int .i64 (j : Int)] TPl)).alloc O).drew.cell? ⟨b, o, none⟩ = some (.slice ai li ci) ∧ ((w.alloc (.cells #[.int .i64 (i : Int), .int .i64 (j : Int)] TPl)).alloc O).drew.cell? ⟨q, r, none⟩ = some (.string en.1.user) ∧ ((w.alloc (.cells #[.int .i64 (i : Int), .int .i64 (j : Int)] TPl)).alloc O).drew.cell? ⟨q, r + 1, none⟩ = some (.int .u64 (en.1.seq : Int)) ∧ ((w.alloc (.cells #[.int .i64 (i : Int), .int .i64 (j : Int)] TPl)).alloc O).drew.cell? ⟨q, r + 2, none⟩ = some (.int .i64 en.1.kind) ∧ ((w.alloc (.cells #[.int .i64 (i : Int), .int .i64 (j : Int)] TPl)).alloc O).drew.cell? ⟨q, r + 3, none⟩ = some (.string en.2)) := fun O => by
    obtain ⟨z0, z1, z2, z3, z4⟩ := HZ.out _ ((((Below.refl w.heap.size w).alloc (Nat.le_refl _) (.cells #[.int .i64 (i : Int), .int .i64 (j : Int)] TPl)).alloc (by simp) O).drew)
    have hx := (Box.new w TPl #[.int .i64 (i : Int), .int .i64 (j : Int)]).alloc O
    exact ⟨hx.cell 0, hx.cell 1, z0, z1, z2, z3, z4⟩
  have HB : Hid (∀ O, Below w.heap.size w ((w.alloc (.cells #[.int .i64 (i : Int), .int .i64 (j : Int)] TPl)).alloc O).drew) := fun O => (((Below.refl w.heap.size w).alloc (Nat.le_refl _) (.cells #[.int .i64 (i : Int), .int .i64 (j : Int)] TPl)).alloc (by simp) O).drew
  have HKK : Hid (∀ O, _) := HK
  clear HZ HK
  go_region_held3 (fun V => V.cell? ⟨w.heap.size, 0, none⟩ = some (.int .i64 (i : Int)) ∧ V.cell? ⟨w.heap.size, 1, none⟩ = some (.int .i64 (j : Int)) ∧ V.cell? ⟨b, o, none⟩ = some (.slice ai li ci) ∧ V.cell? ⟨q, r, none⟩ = some (.string en.1.user) ∧ V.cell? ⟨q, r + 1, none⟩ = some (.int .u64 (en.1.seq : Int)) ∧ V.cell? ⟨q, r + 2, none⟩ = some (.int .i64 en.1.kind) ∧ V.cell? ⟨q, r + 3, none⟩ = some (.string en.2)) (exact HKK.out _) (fail)
  go_wp2
  exact bodyPost_ret (v := .agg #[.string en.1.user, .int .u64 (en.1.seq : Int), .int .i64 en.1.kind, .string en.2]) (by simp [results, Try.results27, go_sem]) rfl ⟨rfl, HB.out _⟩
set_option maxRecDepth 100000 in
set_option maxHeartbeats 4000000 in
theorem ahead_any (h : LsAt w a n c L) {p q : PlL} (hp1 : p.1 < n) (hq1 : q.1 < n) (hp : validL L p) (hq : validL L q) :
    Calls Try.prog 38 #[.slice a n c, plV p.1 (p.2 : Int), plV q.1 (q.2 : Int)] w fun e w' => e = .returned (.bool (decide (aheadL L p q))) ∧ Below w.heap.size w w' := by
  obtain ⟨i, j⟩ := p
  obtain ⟨k, l⟩ := q
  dsimp only at hp1 hq1 ⊢
  have HP : Hid (∀ W, Below w.heap.size w W → Calls Try.prog 27 #[.slice a n c, .agg #[.int .i64 (i : Int), .int .i64 (j : Int)]] W fun e w' => e = .returned (.agg #[.string (entL L (i, j)).1.user, .int .u64 ((entL L (i, j)).1.seq : Int), .int .i64 (entL L (i, j)).1.kind, .string (entL L (i, j)).2]) ∧ Below W.heap.size W w') := fun W hW => entry_any (h.below hW) hp1 hp
  have HQ : Hid (∀ W, Below w.heap.size w W → Calls Try.prog 27 #[.slice a n c, .agg #[.int .i64 (k : Int), .int .i64 (l : Int)]] W fun e w' => e = .returned (.agg #[.string (entL L (k, l)).1.user, .int .u64 ((entL L (k, l)).1.seq : Int), .int .i64 (entL L (k, l)).1.kind, .string (entL L (k, l)).2]) ∧ Below W.heap.size W w') := fun W hW => entry_any (h.below hW) hq1 hq
  have HD : Hid (decide (aheadL L (i, j) (k, l)) = if (entL L (i, j)).1.cmp (entL L (k, l)).1 = 0 then decide (i < k) else decide ((entL L (i, j)).1.cmp (entL L (k, l)).1 < 0)) := by
    unfold Hid aheadL cmpL
    by_cases e : (entL L (i, j)).1.cmp (entL L (k, l)).1 = 0
    · simp [e]
    · simp [e]
  clear h hp hq hp1 hq1
  rw [HD.out]
  generalize entL L (i, j) = eA at HP ⊢
  generalize entL L (k, l) = eB at HQ ⊢
  clear HD
  have HCP : Hid (∀ W : World, Calls Try.prog 36 #[.agg #[.string eA.1.user, .int .u64 (eA.1.seq : Int), .int .i64 eA.1.kind], .agg #[.string eB.1.user, .int .u64 (eB.1.seq : Int), .int .i64 eB.1.kind]] W fun r w' => r = .returned (.int .i64 (eA.1.cmp eB.1)) ∧ Below W.heap.size W w') := fun W => compare_any _ _ _ _ _ _ W
  generalize eA.1.cmp eB.1 = cv at HCP ⊢
  have HB : Hid (∀ W, Below (w.heap.size + 2) ((w.alloc (.cells #[.int .i64 (i : Int), .int .i64 (j : Int)] TPl)).alloc (.cells #[.int .i64 (k : Int), .int .i64 (l : Int)] TPl)) W → Below w.heap.size w W ∧ W.cell? ⟨w.heap.size, 0, none⟩ = some (.int .i64 (i : Int)) ∧ W.cell? ⟨w.heap.size, 1, none⟩ = some (.int .i64 (j : Int)) ∧ W.cell? ⟨w.heap.size + 1, 0, none⟩ = some (.int .i64 (k : Int)) ∧ W.cell? ⟨w.heap.size + 1, 1, none⟩ = some (.int .i64 (l : Int))) := fun W hW => by
    have h1 := (Box.new w TPl #[.int .i64 (i : Int), .int .i64 (j : Int)]).alloc (.cells #[.int .i64 (k : Int), .int .i64 (l : Int)] TPl)
    have h2 := Box.new (w.alloc (.cells #[.int .i64 (i : Int), .int .i64 (j : Int)] TPl)) TPl #[.int .i64 (k : Int), .int .i64 (l : Int)]
    have h1 := h1.kept (hW.block _ (by omega))
    have h2 := h2.kept (hW.block _ (by simp))
    have hs : (w.alloc (.cells #[.int .i64 (i : Int), .int .i64 (j : Int)] TPl)).heap.size = w.heap.size + 1 := by simp
    rw [hs] at h2
    exact ⟨(((Below.refl _ _).alloc (Nat.le_refl _) _).alloc (by simp) _).trans (hW.mono (by simp)), h1.cell 0, h1.cell 1, h2.cell 0, h2.cell 1⟩
  have hfa := fun W => fieldK W eA.1.user (eA.1.seq : Int) eA.1.kind eA.2
  have hfb := fun W => fieldK W eB.1.user (eB.1.seq : Int) eB.1.kind eB.2
  go_enter Try.func38, Try.ntmps38
  go_wp2_with fail
  have hsz : ((w.alloc (.cells #[.int .i64 (i : Int), .int .i64 (j : Int)] TPl)).alloc (.cells #[.int .i64 (k : Int), .int .i64 (l : Int)] TPl)).heap.size = w.heap.size + 2 := by simp
  have HB0 : Hid (Below (w.heap.size + 2) ((w.alloc (.cells #[.int .i64 (i : Int), .int .i64 (j : Int)] TPl)).alloc (.cells #[.int .i64 (k : Int), .int .i64 (l : Int)] TPl)) ((w.alloc (.cells #[.int .i64 (i : Int), .int .i64 (j : Int)] TPl)).alloc (.cells #[.int .i64 (k : Int), .int .i64 (l : Int)] TPl)).drew) := (Below.refl _ _).drew
  have HSZ : Hid (w.heap.size + 2 ≤ ((w.alloc (.cells #[.int .i64 (i : Int), .int .i64 (j : Int)] TPl)).alloc (.cells #[.int .i64 (k : Int), .int .i64 (l : Int)] TPl)).drew.heap.size) := by unfold Hid; simp
  clear hsz
  obtain ⟨_, x0, x1, y0, y1⟩ := HB.out _ HB0.out
  generalize (w.alloc (.cells #[.int .i64 (i : Int), .int .i64 (j : Int)] TPl)).alloc (.cells #[.int .i64 (k : Int), .int .i64 (l : Int)] TPl) = w1 at *
  go_region_held3 (fun V => V.cell? ⟨w.heap.size, 0, none⟩ = some (.int .i64 (i : Int)) ∧ V.cell? ⟨w.heap.size, 1, none⟩ = some (.int .i64 (j : Int)) ∧ V.cell? ⟨w.heap.size + 1, 0, none⟩ = some (.int .i64 (k : Int)) ∧ V.cell? ⟨w.heap.size + 1, 1, none⟩ = some (.int .i64 (l : Int))) (first | exact ⟨x0, x1, y0, y1⟩ | go_keep)
    (first
     | (go_at_call 27; with_reducible refine (HP.out _ (HB.out _ HB0.out).1).mono ?_; rintro _ vx ⟨rfl, hbx⟩
        have HB0 : Hid (Below (w.heap.size + 2) w1 vx) := HB0.out.trans (hbx.mono HSZ.out)
        have HSZ : Hid (w.heap.size + 2 ≤ vx.heap.size) := Nat.le_trans HSZ.out hbx.size
        obtain ⟨_, x0, x1, y0, y1⟩ := HB.out _ HB0.out
        clear hbx)
     | (go_at_call 27; with_reducible refine (HQ.out _ (HB.out _ HB0.out).1).mono ?_; rintro _ vx ⟨rfl, hbx⟩
        have HB0 : Hid (Below (w.heap.size + 2) w1 vx) := HB0.out.trans (hbx.mono HSZ.out)
        have HSZ : Hid (w.heap.size + 2 ≤ vx.heap.size) := Nat.le_trans HSZ.out hbx.size
        obtain ⟨_, x0, x1, y0, y1⟩ := HB.out _ HB0.out
        clear hbx)
     | (go_at_call 36; refine (HCP.out _).mono ?_; rintro _ vx ⟨rfl, hbx⟩
        have HB0 : Hid (Below (w.heap.size + 2) w1 vx) := HB0.out.trans (hbx.mono HSZ.out)
        have HSZ : Hid (w.heap.size + 2 ≤ vx.heap.size) := Nat.le_trans HSZ.out hbx.size
        obtain ⟨_, x0, x1, y0, y1⟩ := HB.out _ HB0.out
        clear hbx))
  by_cases hcv : cv = 0
  · go_wp2
    go_ret
    simp only [if_true]
    exact ⟨ret1 rfl, (HB.out _ HB0.out).1⟩
  · go_wp2
    go_ret
    simp only [hcv, if_false]
    exact ⟨ret1 rfl, (HB.out _ HB0.out).1⟩
set_option maxRecDepth 100000 in
set_option maxHeartbeats 4000000 in
theorem behind_any (h : LsAt w a n c L) {p q : PlL} (hp1 : p.1 < n) (hq1 : q.1 < n) (hp : validL L p) (hq : validL L q) :
    Calls Try.prog 40 #[.slice a n c, plV p.1 (p.2 : Int), plV q.1 (q.2 : Int)] w fun e w' => e = .returned (.bool (decide (aheadL L q p))) ∧ Below w.heap.size w w' := by
  obtain ⟨i, j⟩ := p
  obtain ⟨k, l⟩ := q
  dsimp only at hp1 hq1 ⊢
  have HP : Hid (∀ W, Below w.heap.size w W → Calls Try.prog 38 #[.slice a n c, .agg #[.int .i64 (k : Int), .int .i64 (l : Int)], .agg #[.int .i64 (i : Int), .int .i64 (j : Int)]] W fun e w' => e = .returned (.bool (decide (aheadL L (k, l) (i, j)))) ∧ Below W.heap.size W w') := fun W hW => ahead_any (p := (k, l)) (q := (i, j)) (h.below hW) hq1 hp1 hq hp
  clear h hp hq hp1 hq1
  generalize decide (aheadL L (k, l) (i, j)) = bb at HP ⊢
  go_enter Try.func40, Try.ntmps40
  go_wp2_with fail
  have HB : Hid (Below w.heap.size w ((w.alloc (.cells #[.int .i64 (i : Int), .int .i64 (j : Int)] TPl)).alloc (.cells #[.int .i64 (k : Int), .int .i64 (l : Int)] TPl))) := (((Below.refl _ _).alloc (Nat.le_refl _) _).alloc (by simp) _)
  refine (HP.out _ HB.out).mono ?_
  rintro _ w2 ⟨rfl, hb⟩
  have HB2 : Hid (Below w.heap.size w w2) := HB.out.trans (hb.mono HB.out.size)
  clear hb
  go_wp2
  go_ret
  exact ⟨ret1 rfl, HB2.out⟩
set_option maxRecDepth 100000 in
set_option maxHeartbeats 4000000 in
theorem has_any (h : LsAt w a n c L) {i : Nat} (hi : i < n) (x : Int) :
    Calls Try.prog 47 #[.slice a n c, plV i x] w fun e w' => e = .returned (.bool (decide (0 ≤ x ∧ x < (lenL L i : Int)))) ∧ Below w.heap.size w w' := by
  obtain ⟨b, o, ai, ci, hx, hy, _⟩ := h.listA hi
  have hB0 := (Below.refl w.heap.size w).alloc (Nat.le_refl _) (.cells #[.int .i64 (i : Int), .int .i64 x] TPl)
  have hcl : ∀ m, ((w.alloc (.cells #[.int .i64 (i : Int), .int .i64 x] TPl)).drewN m).cell? ⟨b, o, none⟩ = some (.slice ai (lenL L i) ci) := fun m => hy _ (Below.drewM hB0 m)
  have hcl0 := hy _ hB0
  have HB : Hid (∀ m, Below w.heap.size w ((w.alloc (.cells #[.int .i64 (i : Int), .int .i64 x] TPl)).drewN m)) := fun m => Below.drewM hB0 m
  clear h hi hy hB0
  generalize lenL L i = li at *
  by_cases hx0 : 0 ≤ x
  · go_enter Try.func47, Try.ntmps47
    go_wp2_with fail
    go_quiet (fail)
    go_wp2
    go_ret
    simp only [hx0, true_and]
    exact ⟨ret1 rfl, HB.out _⟩
  · have hxd : decide (0 ≤ x) = false := decide_eq_false hx0
    go_enter Try.func47, Try.ntmps47
    go_wp2_with fail
    go_quiet (fail)
    go_wp2
    go_ret
    rw [decide_eq_false (show ¬ (0 ≤ x ∧ x < (li : Int)) by omega)]
    exact ⟨ret1 rfl, HB.out _⟩
end
end Go.Proofs.Ytfijibengmgegaa
