/- The document's own tasks, plainly and in memory. -/
import Derived.Test.YtehkcgjiimfdjaaPbSrun
namespace Go.Proofs.Ytehkcgjiimfdjaa
open Go.RowKit
structure RT where
  pl : Nat
  r : List Int
  en : Bool
  bd : Bool
  cd : Int
  wt : Int
def rt0 : RT := ⟨0, [0, 0, 0, 0], false, false, 0, 0⟩
def RT.cells (x : RT) : List Value := .int .i64 (x.pl : Int) :: (x.r.map (Value.int .i64) ++ [.bool x.en, .bool x.bd, .int .i64 x.cd, .int .i64 x.wt])
theorem RT.cells_len {x : RT} (h : x.r.length = 4) : x.cells.length = 9 := by simp [RT.cells, h]
theorem RT.cells_at {x : RT} (h : x.r.length = 4) : x.cells[0]? = some (.int .i64 (x.pl : Int)) ∧ (∀ a, a < 4 → x.cells[1 + a]? = some (.int .i64 (x.r.getD a 0))) ∧ x.cells[5]? = some (.bool x.en) ∧ x.cells[6]? = some (.bool x.bd) ∧ x.cells[7]? = some (.int .i64 x.cd) ∧ x.cells[8]? = some (.int .i64 x.wt) := by
  obtain ⟨pl, r, en, bd, cd, wt⟩ := x
  match r, h with
  | [r0, r1, r2, r3], _ =>
    refine ⟨rfl, fun a ha => ?_, rfl, rfl, rfl, rfl⟩
    rcases (by omega : a = 0 ∨ a = 1 ∨ a = 2 ∨ a = 3) with rfl | rfl | rfl | rfl <;> rfl
def cellsT : List RT → List Value
  | [] => []
  | x :: l => x.cells ++ cellsT l
def Regs (l : List RT) : Prop := ∀ x ∈ l, x.r.length = 4
theorem cellsT_len : ∀ {l : List RT}, Regs l → (cellsT l).length = l.length * 9
  | [], _ => rfl
  | x :: l, h => by
    have h1 := cellsT_len (l := l) fun y hy => h y (List.mem_cons_of_mem _ hy)
    have h2 := RT.cells_len (h x (List.mem_cons_self ..))
    simp [cellsT, h1, h2]
    omega
theorem cellsT_at : ∀ {l : List RT}, Regs l → ∀ (k j : Nat), k < l.length → j < 9 → (cellsT l)[k * 9 + j]? = (l.getD k rt0).cells[j]?
  | [], _, k, j, h, _ => by simp at h
  | x :: l, hR, 0, j, _, hj => by
    have h2 := RT.cells_len (hR x (List.mem_cons_self ..))
    rw [cellsT, List.getElem?_append_left (by omega)]
    simp [List.getD]
  | x :: l, hR, k + 1, j, h, hj => by
    have h2 := RT.cells_len (hR x (List.mem_cons_self ..))
    rw [cellsT, List.getElem?_append_right (by omega), h2, show (k + 1) * 9 + j - 9 = k * 9 + j by omega, cellsT_at (l := l) (fun y hy => hR y (List.mem_cons_of_mem _ hy)) k j (by simpa using h) hj]
    simp [List.getD]
structure RW where
  cells : List Int
  has : List Int
  ts : List RT
  em : List (Nat × Int)
  steps : Nat
  ea : Option Addr
  ec : Nat
def RW.t (G : RW) (i : Nat) : RT := G.ts.getD i rt0
def wdL (cv : Value) (q : Nat) (G : RW) : List Value := cv :: .slice (some ⟨q, 0, none⟩) G.ts.length G.ts.length :: (G.cells.map (Value.int .i64) ++ (G.has.map (Value.int .i64) ++ [.slice G.ea G.em.length G.ec, .int .i64 (G.steps : Int)]))
/-- The document's own world, in memory. -/
structure Wd (w0 w : World) (p q : Nat) (cv : Value) (G : RW) : Prop where
  box : Box w p 51 (wdL cv q G).toArray
  row : Box w q 54 (cellsT G.ts).toArray
  em : w.ownsRow w0.heap.size 34 2 (.slice G.ea G.em.length G.ec) G.em.length (cellsE G.em)
  hp : w0.heap.size ≤ p
  hq : w0.heap.size ≤ q
  base : Below w0.heap.size w0 w
  lc : G.cells.length = 16
  lh : G.has.length = 16
  regs : Regs G.ts
  many : G.ts.length ≤ 8
section
variable {w0 w w' : World} {p q : Nat} {cv : Value} {G : RW}
theorem Wd.tagP (h : Wd w0 w p q cv G) : tag w p = some 51 := h.box.tag
theorem Wd.tagQ (h : Wd w0 w p q cv G) : tag w q = some 54 := h.row.tag
theorem Wd.tagE (h : Wd w0 w p q cv G) {k : Nat} (e : blkOf G.ea = some k) : tag w k = some 34 := row_tag h.em (by rw [own_blk]; exact e)
theorem Wd.ne (h : Wd w0 w p q cv G) : p ≠ q := tag_ne h.tagP h.tagQ (by decide)
theorem Wd.kept (h : Wd w0 w p q cv G) (hk : ∀ k, k = p ∨ k = q ∨ blkOf G.ea = some k → w'.heap[k]? = w.heap[k]?) (hb : Below w0.heap.size w0 w') : Wd w0 w' p q cv G :=
  ⟨h.box.kept (hk p (.inl rfl)), h.row.kept (hk q (.inr (.inl rfl))), row_same h.em fun b e => hk b (.inr (.inr (by rw [← own_blk G.ea G.em.length G.ec]; exact e))), h.hp, h.hq, hb, h.lc, h.lh, h.regs, h.many⟩
theorem Wd.lt (h : Wd w0 w p q cv G) {k : Nat} (hk : k = p ∨ k = q ∨ blkOf G.ea = some k) : k < w.heap.size := by
  rcases hk with rfl | rfl | e
  · exact tag_lt h.tagP
  · exact tag_lt h.tagQ
  · exact tag_lt (h.tagE e)
theorem Wd.below (h : Wd w0 w p q cv G) (hb : Below w.heap.size w w') : Wd w0 w' p q cv G :=
  h.kept (fun _ hk => hb.block _ (h.lt hk)) (h.base.trans (hb.mono h.base.size))
theorem wdL_at {cv : Value} {q : Nat} {G : RW} (hc : G.cells.length = 16) (hh : G.has.length = 16) : (wdL cv q G)[0]? = some cv ∧ (wdL cv q G)[1]? = some (.slice (some ⟨q, 0, none⟩) G.ts.length G.ts.length) ∧ (∀ a, a < 16 → (wdL cv q G)[2 + a]? = some (.int .i64 (G.cells.getD a 0))) ∧ (∀ a, a < 16 → (wdL cv q G)[18 + a]? = some (.int .i64 (G.has.getD a 0))) ∧ (wdL cv q G)[34]? = some (.slice G.ea G.em.length G.ec) ∧ (wdL cv q G)[35]? = some (.int .i64 (G.steps : Int)) := by
  refine ⟨rfl, rfl, fun a ha => ?_, fun a ha => ?_, ?_, ?_⟩
  · unfold wdL
    rw [show 2 + a = a + 1 + 1 by omega, List.getElem?_cons_succ, List.getElem?_cons_succ, List.getElem?_append_left (by simp [hc, ha])]
    simp [List.getD, hc, ha]
  · unfold wdL
    rw [show 18 + a = a + 16 + 1 + 1 by omega, List.getElem?_cons_succ, List.getElem?_cons_succ, List.getElem?_append_right (by simp [hc]), List.getElem?_append_left (by simp [hc, hh, ha])]
    simp [List.getD, hc, hh, ha]
  · unfold wdL
    rw [List.getElem?_cons_succ, List.getElem?_cons_succ, List.getElem?_append_right (by simp [hc]), List.getElem?_append_right (by simp [hc, hh])]
    simp [hc, hh]
  · unfold wdL
    rw [List.getElem?_cons_succ, List.getElem?_cons_succ, List.getElem?_append_right (by simp [hc]), List.getElem?_append_right (by simp [hc, hh])]
    simp [hc, hh]
theorem Wd.cell (h : Wd w0 w p q cv G) : w.cell? ⟨p, 0, none⟩ = some cv ∧ w.cell? ⟨p, 1, none⟩ = some (.slice (some ⟨q, 0, none⟩) G.ts.length G.ts.length) ∧ (∀ a, a < 16 → w.cell? ⟨p, 2 + a, none⟩ = some (.int .i64 (G.cells.getD a 0))) ∧ (∀ a, a < 16 → w.cell? ⟨p, 18 + a, none⟩ = some (.int .i64 (G.has.getD a 0))) ∧ w.cell? ⟨p, 34, none⟩ = some (.slice G.ea G.em.length G.ec) ∧ w.cell? ⟨p, 35, none⟩ = some (.int .i64 (G.steps : Int)) := by
  obtain ⟨h0, h1, h2, h3, h4, h5⟩ := wdL_at (cv := cv) (q := q) h.lc h.lh
  exact ⟨by rw [h.box.cell]; simpa using h0, by rw [h.box.cell]; simpa using h1, fun a ha => by rw [h.box.cell]; simpa using h2 a ha, fun a ha => by rw [h.box.cell]; simpa using h3 a ha, by rw [h.box.cell]; simpa using h4, by rw [h.box.cell]; simpa using h5⟩
theorem Wd.tcell (h : Wd w0 w p q cv G) {i : Nat} (hi : i < G.ts.length) : w.cell? ⟨q, i * 9, none⟩ = some (.int .i64 ((G.t i).pl : Int)) ∧ w.cell? ⟨q, i * 9 + 1, none⟩ = some (.int .i64 ((G.t i).r.getD 0 0)) ∧ w.cell? ⟨q, i * 9 + 2, none⟩ = some (.int .i64 ((G.t i).r.getD 1 0)) ∧ w.cell? ⟨q, i * 9 + 3, none⟩ = some (.int .i64 ((G.t i).r.getD 2 0)) ∧ w.cell? ⟨q, i * 9 + 4, none⟩ = some (.int .i64 ((G.t i).r.getD 3 0)) ∧ w.cell? ⟨q, i * 9 + 5, none⟩ = some (.bool (G.t i).en) ∧ w.cell? ⟨q, i * 9 + 6, none⟩ = some (.bool (G.t i).bd) ∧ w.cell? ⟨q, i * 9 + 7, none⟩ = some (.int .i64 (G.t i).cd) ∧ w.cell? ⟨q, i * 9 + 8, none⟩ = some (.int .i64 (G.t i).wt) := by
  have hr : (G.t i).r.length = 4 := h.regs _ (by unfold RW.t; simp [List.getD, hi])
  obtain ⟨h0, h1, h2, h3, h4, h5⟩ := RT.cells_at hr
  have key : ∀ j, j < 9 → w.cell? ⟨q, i * 9 + j, none⟩ = (G.t i).cells[j]? := fun j hj => by
    rw [h.row.cell]
    have := cellsT_at h.regs i j hi hj
    simpa [RW.t] using this
  exact ⟨(key 0 (by omega)).trans h0, (key 1 (by omega)).trans (h1 0 (by omega)), (key 2 (by omega)).trans (h1 1 (by omega)), (key 3 (by omega)).trans (h1 2 (by omega)), (key 4 (by omega)).trans (h1 3 (by omega)), (key 5 (by omega)).trans h2, (key 6 (by omega)).trans h3, (key 7 (by omega)).trans h4, (key 8 (by omega)).trans h5⟩
end
def insAt (code : List (List Ins)) (i pl : Nat) : Ins := (code.getD i []).getD pl ins0
def RW.can (code : List (List Ins)) (G : RW) (i : Nat) : Bool :=
  if (G.t i).en || (G.t i).bd || decide (0 ≤ (G.t i).cd) then false
  else if 0 ≤ (G.t i).wt then decide (G.has.getD (G.t i).wt.toNat 0 < 0)
  else decide ((insAt code i (G.t i).pl).op ≠ 8) || decide (G.has.getD (insAt code i (G.t i).pl).a.toNat 0 < 0)
/-- What a task that is neither ended nor bad keeps. -/
def RT.Ok (c : List Ins) (x : RT) : Prop := x.en = false → x.bd = false → x.wt ≤ 15 ∧ x.pl < c.length
structure Gok (code : List (List Ins)) (G : RW) : Prop where
  many : code.length = G.ts.length
  good : ∀ i, i < code.length → codeOk (code.getD i []) = true
  ok : ∀ i, i < code.length → (G.t i).Ok (code.getD i [])
end Go.Proofs.Ytehkcgjiimfdjaa
/- The contract of the document's own can. -/
namespace Go.Proofs.Ytehkcgjiimfdjaa
open Go.RowKit
theorem CdAt.insAt {w : World} {a : Option Addr} {len cap : Nat} {code : List (List Ins)} (h : CdAt w a len cap code) {i k : Nat} (hi : i < len) (hk : k < (code.getD i []).length) : ∃ b off ib io ic, a = some ⟨b, off, none⟩ ∧ w.cell? ⟨b, off + i, none⟩ = some (.slice (some ⟨ib, io, none⟩) (code.getD i []).length ic) ∧ w.cell? ⟨ib, io + k * 4, none⟩ = some (.int .i64 (insAt code i k).op) ∧ w.cell? ⟨ib, io + k * 4 + 1, none⟩ = some (.int .i64 (insAt code i k).a) ∧ w.cell? ⟨ib, io + k * 4 + 2, none⟩ = some (.int .i64 (insAt code i k).b) ∧ w.cell? ⟨ib, io + k * 4 + 3, none⟩ = some (.int .i64 (insAt code i k).c) ∧ (code.getD i []).length ≤ ic ∧ ic ≤ maxLen ∧ b < w.heap.size ∧ ib < w.heap.size := by
  obtain ⟨b, off, rfl, hc⟩ := h.here (by omega)
  obtain ⟨aj, cj, h1, h2⟩ := hc i hi
  obtain ⟨ib, io, rfl, h3⟩ := h2.here (by omega)
  obtain ⟨c0, c1, c2, c3⟩ := h3 k hk
  exact ⟨b, off, ib, io, cj, rfl, h1, c0, c1, c2, c3, h2.le, h2.max, World.block_lt_of_cell? w _ h1, World.block_lt_of_cell? w _ c0⟩
theorem ins_lock {x : Ins} {n : Nat} (h : insOk x n = true) (e : x.op = 8) : 0 ≤ x.a ∧ x.a < 16 := by
  have : isSh x.a = true := by simpa [insOk, e] using h
  simpa [isSh] using this
theorem code_ins {c : List Ins} (h : codeOk c = true) {k : Nat} (hk : k < c.length) : insOk (c.getD k ins0) c.length = true := by
  unfold codeOk at h
  simp only [Bool.and_eq_true, List.all_eq_true] at h
  exact h.2 _ (by simp [List.getD, hk])
set_option maxRecDepth 100000 in
set_option maxHeartbeats 1000000 in
theorem rcan_at {w0 w : World} {p q : Nat} {a : Option Addr} {len cap : Nat} {code : List (List Ins)} {G : RW} (h : Wd w0 w p q (.slice a len cap) G) (hC : CdAt w0 a len cap code) (hG : Gok code G) {i : Nat} (hi : i < G.ts.length) :
    Calls Try.prog 20 #[at_ p, .int .i64 (i : Int)] w fun e w' => e = .returned (.bool (G.can code i)) ∧ Below w.heap.size w w' := by
  obtain ⟨b0, b1, _, bh, _, _⟩ := h.cell
  obtain ⟨t0, t1, t2, t3, t4, t5, t6, t7, t8⟩ := h.tcell hi
  have hlen : len = G.ts.length := by rw [← hC.size]; exact hG.many
  have hmany := h.many
  have hplt := tag_lt h.tagP
  have hqlt := tag_lt h.tagQ
  have hO := hG.ok i (by rw [hG.many]; exact hi)
  have HC : Hid (CdAt w a len cap code) := hC.below (Nat.le_refl _) h.base
  have hcok := hG.good i (by rw [hG.many]; exact hi)
  have hx1 : (0 : Int) ≤ (i : Int) := by omega
  have hx2 : (i : Int) < (G.ts.length : Int) := by omega
  unfold RW.can
  generalize hT : G.t i = T at *
  obtain ⟨pl, r, en, bd, cd, wt⟩ := T
  simp only at t0 t1 t2 t3 t4 t5 t6 t7 t8 hO ⊢
  clear h hC hG hT
  cases en with
  | true =>
    go_enter Try.func20, Try.ntmps20
    go_wp2
    go_returns
    exact ⟨rfl, (Below.refl _ _).alloc (Nat.le_refl _) _⟩
  | false =>
    cases bd with
    | true =>
      go_enter Try.func20, Try.ntmps20
      go_wp2
      go_returns
      exact ⟨rfl, (Below.refl _ _).alloc (Nat.le_refl _) _⟩
    | false =>
      obtain ⟨hwt, hpl⟩ : wt ≤ 15 ∧ pl < (code.getD i []).length := hO rfl rfl
      clear hO
      by_cases hcd : 0 ≤ cd
      · go_enter Try.func20, Try.ntmps20
        go_wp2
        all_goals
          go_returns
          exact ⟨by simp, (Below.refl _ _).alloc (Nat.le_refl _) _⟩
      · have hcd' : decide (0 ≤ cd) = false := by simpa using hcd
        rw [hcd']
        by_cases hw : 0 ≤ wt
        · obtain ⟨m, rfl⟩ : ∃ m : Nat, wt = (m : Int) := ⟨wt.toNat, by omega⟩
          have bm := bh m (by omega)
          have hy2 : (m : Int) < 16 := by omega
          generalize hv : G.has.getD m 0 = v at bm
          have hv' : G.has[m]?.getD 0 = v := hv
          go_enter Try.func20, Try.ntmps20
          go_wp2
          all_goals
            go_region
            all_goals
              go_wp2
              all_goals
                go_returns
                exact ⟨by simp, ((Below.refl _ _).alloc (Nat.le_refl _) _).drew⟩
        · obtain ⟨cb, co, ib, io, ic, rfl, k0, j0, j1, j2, j3, hic, hicm, hcb, hib⟩ := HC.out.insAt (i := i) (k := pl) (by omega) hpl
          have hins := code_ins hcok hpl
          have hI : (code.getD i []).getD pl ins0 = insAt code i pl := rfl
          rw [hI] at hins
          have hcle := HC.out.le
          have hcmx := HC.out.max
          unfold maxLen at hicm hcmx
          have hy1 : (0 : Int) ≤ (i : Int) := by omega
          have hy2 : (i : Int) < (len : Int) := by omega
          have hy3 : (0 : Int) ≤ (pl : Int) := by omega
          have hy4 : (pl : Int) < ((code.getD i []).length : Int) := by omega
          rw [if_neg (by decide), if_neg hw]
          generalize (code.getD i []).length = cl at *
          generalize insAt code i pl = X at *
          obtain ⟨xo, xa, xb, xc⟩ := X
          simp only at j0 j1 j2 j3 hins ⊢
          have hb2 : ∀ o o2 : Obj, Below w.heap.size w ((w.alloc o).alloc o2) := fun o o2 => ((Below.refl _ _).alloc (Nat.le_refl _) _).alloc (by simp) _
          by_cases h8 : xo = 8
          · obtain ⟨ha1, ha2⟩ := ins_lock hins h8
            simp only at ha1 ha2
            obtain ⟨m, rfl⟩ : ∃ m : Nat, xa = (m : Int) := ⟨xa.toNat, by omega⟩
            have bm := bh m (by omega)
            have hm2 : (m : Int) < 16 := by omega
            generalize hv : G.has.getD m 0 = v at bm
            have hv' : G.has[m]?.getD 0 = v := hv
            subst h8
            clear hins
            go_enter Try.func20, Try.ntmps20
            go_wp2
            all_goals
              go_region
              all_goals
                go_wp2
                all_goals
                  go_quiet (fail)
                  all_goals
                    go_wp2
                    all_goals
                      go_returns
                      exact ⟨ret1 (by show Value.bool (decide (v < 0)) = _; simp [hv']), Below.drewN (by first | exact hb2 _ _ | exact (hb2 _ _).drew) _⟩
          · clear hins
            go_enter Try.func20, Try.ntmps20
            go_wp2
            all_goals
              go_region
              all_goals
                go_wp2
                all_goals
                  go_quiet (fail)
                  all_goals
                    go_wp2
                    all_goals
                      go_returns
                      exact ⟨ret1 (by show Value.bool true = _; simp [h8]), Below.drewN (by first | exact hb2 _ _ | exact (hb2 _ _).drew) _⟩
end Go.Proofs.Ytehkcgjiimfdjaa
/- The document's own world: one cell, or one task, is put otherwise. -/
namespace Go.Proofs.Ytehkcgjiimfdjaa
open Go.RowKit
theorem RT.cells_eq {x : RT} (h : x.r.length = 4) : x.cells = [.int .i64 (x.pl : Int), .int .i64 (x.r.getD 0 0), .int .i64 (x.r.getD 1 0), .int .i64 (x.r.getD 2 0), .int .i64 (x.r.getD 3 0), .bool x.en, .bool x.bd, .int .i64 x.cd, .int .i64 x.wt] := by
  obtain ⟨pl, r, en, bd, cd, wt⟩ := x
  match r, h with
  | [r0, r1, r2, r3], _ => rfl
theorem cellsT_set : ∀ {l : List RT}, Regs l → ∀ (k j : Nat) (v : Value) (x : RT), k < l.length → j < 9 → x.cells = (l.getD k rt0).cells.set j v → (cellsT l).set (k * 9 + j) v = cellsT (l.set k x)
  | [], _, k, j, v, x, h, _, _ => by simp at h
  | y :: l, hR, 0, j, v, x, _, hj, hx => by
    have h2 := RT.cells_len (hR y (List.mem_cons_self ..))
    rw [cellsT, List.set_append_left _ _ (by omega), List.set_cons_zero, cellsT, hx]
    simp [List.getD]
  | y :: l, hR, k + 1, j, v, x, h, hj, hx => by
    have h2 := RT.cells_len (hR y (List.mem_cons_self ..))
    rw [cellsT, List.set_append_right _ _ (by omega), h2, show (k + 1) * 9 + j - 9 = k * 9 + j by omega, List.set_cons_succ, cellsT, cellsT_set (l := l) (fun z hz => hR z (List.mem_cons_of_mem _ hz)) k j v x (by simpa using h) hj (by simpa [List.getD] using hx)]
theorem cellsT_put : ∀ {l : List RT}, Regs l → ∀ (k : Nat) (x : RT) (v0 v1 v2 v3 v4 v5 v6 v7 v8 : Value), k < l.length → x.cells = [v0, v1, v2, v3, v4, v5, v6, v7, v8] → (((((((((cellsT l).set (k * 9) v0).set (k * 9 + 1) v1).set (k * 9 + 2) v2).set (k * 9 + 3) v3).set (k * 9 + 4) v4).set (k * 9 + 5) v5).set (k * 9 + 6) v6).set (k * 9 + 7) v7).set (k * 9 + 8) v8 = cellsT (l.set k x)
  | [], _, k, x, _, _, _, _, _, _, _, _, _, h, _ => by simp at h
  | y :: l, hR, 0, x, v0, v1, v2, v3, v4, v5, v6, v7, v8, _, hx => by
    have h2 := RT.cells_len (hR y (List.mem_cons_self ..))
    rw [List.set_cons_zero, cellsT, cellsT, hx]
    match y.cells, h2 with
    | [a0, a1, a2, a3, a4, a5, a6, a7, a8], _ => simp
  | y :: l, hR, k + 1, x, v0, v1, v2, v3, v4, v5, v6, v7, v8, h, hx => by
    have h2 := RT.cells_len (hR y (List.mem_cons_self ..))
    have ih := cellsT_put (l := l) (fun z hz => hR z (List.mem_cons_of_mem _ hz)) k x v0 v1 v2 v3 v4 v5 v6 v7 v8 (by simpa using h) hx
    rw [List.set_cons_succ, cellsT, cellsT, ← ih]
    have e : ∀ j, (k + 1) * 9 + j = y.cells.length + (k * 9 + j) := fun j => by omega
    have e0 : (k + 1) * 9 = y.cells.length + k * 9 := by omega
    have sa : ∀ (m : List Value) (n : Nat) (v : Value), (y.cells ++ m).set (y.cells.length + n) v = y.cells ++ m.set n v := fun m n v => by
      rw [List.set_append_right _ _ (by omega), Nat.add_sub_cancel_left]
    rw [e 1, e 2, e 3, e 4, e 5, e 6, e 7, e 8, e0]
    simp only [sa]
section
variable {w0 w w' : World} {p q : Nat} {cv : Value} {G : RW}
theorem Wd.alloc (h : Wd w0 w p q cv G) (o : Obj) : Wd w0 (w.alloc o) p q cv G := h.below ((Below.refl _ _).alloc (Nat.le_refl _) _)
theorem Wd.drew (h : Wd w0 w p q cv G) : Wd w0 w.drew p q cv G := h.below (Below.refl _ _).drew
theorem Wd.pNe (h : Wd w0 w p q cv G) {b : Nat} (e : blkOf G.ea = some b) : b ≠ p := tag_ne (h.tagE e) h.tagP (by decide)
theorem Wd.qNe (h : Wd w0 w p q cv G) {b : Nat} (e : blkOf G.ea = some b) : b ≠ q := tag_ne (h.tagE e) h.tagQ (by decide)
/-- A cell of the world's own block is put otherwise. -/
theorem Wd.setP (h : Wd w0 w p q cv G) {G' : RW} (j : Nat) (v : Value) (hL : (wdL cv q G).set j v = wdL cv q G') (h1 : G'.ts = G.ts) (h2 : G'.em = G.em ∧ G'.ea = G.ea ∧ G'.ec = G.ec) (h3 : G'.cells.length = 16) (h4 : G'.has.length = 16) : Wd w0 (w.setCell ⟨p, j, none⟩ v) p q cv G' := by
  refine ⟨?_, ?_, ?_, h.hp, h.hq, h.base.setCell h.hp _, h3, h4, by rw [h1]; exact h.regs, by rw [h1]; exact h.many⟩
  · refine Box.eq (h.box.set j v) ?_
    rw [← hL]
    simp
  · rw [h1]
    exact h.row.other (Ne.symm h.ne) _ _
  · rw [h2.1, h2.2.1, h2.2.2]
    refine row_same h.em fun b e => Below.heap_setCell _ _ _ _ ?_
    rw [own_blk] at e
    exact h.pNe e
theorem Wd.setHas (h : Wd w0 w p q cv G) {m : Nat} (hm : m < 16) (v : Int) : Wd w0 (w.setCell ⟨p, 18 + m, none⟩ (.int .i64 v)) p q cv { G with has := G.has.set m v } := by
  refine h.setP _ _ ?_ rfl ⟨rfl, rfl, rfl⟩ h.lc (by simp [h.lh])
  unfold wdL
  rw [show 18 + m = m + 16 + 1 + 1 by omega, List.set_cons_succ, List.set_cons_succ, List.set_append_right _ _ (by simp [h.lc]), List.set_append_left _ _ (by simp [h.lc, h.lh, hm])]
  simp [h.lc]
theorem Wd.setCl (h : Wd w0 w p q cv G) {m : Nat} (hm : m < 16) (v : Int) : Wd w0 (w.setCell ⟨p, 2 + m, none⟩ (.int .i64 v)) p q cv { G with cells := G.cells.set m v } := by
  refine h.setP _ _ ?_ rfl ⟨rfl, rfl, rfl⟩ (by simp [h.lc]) h.lh
  unfold wdL
  rw [show 2 + m = m + 1 + 1 by omega, List.set_cons_succ, List.set_cons_succ, List.set_append_left _ _ (by simp [h.lc, hm])]
  simp
theorem Wd.setSt (h : Wd w0 w p q cv G) (n : Nat) : Wd w0 (w.setCell ⟨p, 35, none⟩ (.int .i64 (n : Int))) p q cv { G with steps := n } := by
  refine h.setP _ _ ?_ rfl ⟨rfl, rfl, rfl⟩ h.lc h.lh
  unfold wdL
  rw [List.set_cons_succ, List.set_cons_succ, List.set_append_right _ _ (by simp [h.lc]), List.set_append_right _ _ (by simp [h.lc, h.lh])]
  simp [h.lc, h.lh]
theorem regs_set {l : List RT} (h : Regs l) {x : RT} (hx : x.r.length = 4) (i : Nat) : Regs (l.set i x) := fun y hy => by
  rcases List.mem_or_eq_of_mem_set hy with hm | rfl
  · exact h y hm
  · exact hx
/-- A task is put otherwise. -/
theorem Wd.setRow (h : Wd w0 w p q cv G) {i : Nat} {x : RT} (hx : x.r.length = 4) (hb : Box w' q 54 (cellsT (G.ts.set i x)).toArray) (hc : Chg (fun k => k = q) w w') : Wd w0 w' p q cv { G with ts := G.ts.set i x } := by
  refine ⟨?_, hb, ?_, h.hp, h.hq, ?_, h.lc, h.lh, regs_set h.regs hx i, by simpa using h.many⟩
  · have e : wdL cv q { G with ts := G.ts.set i x } = wdL cv q G := by simp [wdL]
    rw [e]
    exact h.box.kept (hc.block p (tag_lt h.tagP) h.ne)
  · exact row_same h.em fun b e => by
      rw [own_blk] at e
      exact hc.block b (tag_lt (h.tagE e)) (h.qNe e)
  · exact h.base.trans (hc.below (B := w0.heap.size) (fun k e => by rw [e]; exact h.hq) h.base.size)
theorem Wd.put9 (h : Wd w0 w p q cv G) {i : Nat} (hi : i < G.ts.length) {x : RT} (hr : x.r.length = 4) {v0 v1 v2 v3 v4 v5 v6 v7 v8 : Value} (hx : x.cells = [v0, v1, v2, v3, v4, v5, v6, v7, v8]) :
    Wd w0 (((((((((w.setCell ⟨q, i * 9, none⟩ v0).setCell ⟨q, i * 9 + 1, none⟩ v1).setCell ⟨q, i * 9 + 2, none⟩ v2).setCell ⟨q, i * 9 + 3, none⟩ v3).setCell ⟨q, i * 9 + 4, none⟩ v4).setCell ⟨q, i * 9 + 5, none⟩ v5).setCell ⟨q, i * 9 + 6, none⟩ v6).setCell ⟨q, i * 9 + 7, none⟩ v7).setCell ⟨q, i * 9 + 8, none⟩ v8) p q cv { G with ts := G.ts.set i x } := by
  refine h.setRow hr ?_ ?_
  · refine Box.eq (((((((((h.row.set _ _).set _ _).set _ _).set _ _).set _ _).set _ _).set _ _).set _ _).set _ _) ?_
    rw [← cellsT_put h.regs i x v0 v1 v2 v3 v4 v5 v6 v7 v8 hi hx]
    simp
  · exact (((((((((Chg.refl (fun k => k = q) w).set (p := q) (fun _ => rfl) _ _).set (p := q) (fun _ => rfl) _ _).set (p := q) (fun _ => rfl) _ _).set (p := q) (fun _ => rfl) _ _).set (p := q) (fun _ => rfl) _ _).set (p := q) (fun _ => rfl) _ _).set (p := q) (fun _ => rfl) _ _).set (p := q) (fun _ => rfl) _ _).set (p := q) (fun _ => rfl) _ _
theorem Wd.put1 (h : Wd w0 w p q cv G) {i j : Nat} (hi : i < G.ts.length) (hj : j < 9) {x : RT} (hr : x.r.length = 4) {v : Value} (hx : x.cells = (G.t i).cells.set j v) : Wd w0 (w.setCell ⟨q, i * 9 + j, none⟩ v) p q cv { G with ts := G.ts.set i x } := by
  refine h.setRow hr ?_ ((Chg.refl (fun k => k = q) w).set (p := q) (fun _ => rfl) _ _)
  refine Box.eq (h.row.set _ _) ?_
  rw [← cellsT_set h.regs i j v x hi hj hx]
  simp
theorem Wd.reg (h : Wd w0 w p q cv G) {i : Nat} (hi : i < G.ts.length) : (G.t i).r.length = 4 := h.regs _ (by unfold RW.t; simp [List.getD, hi])
end
end Go.Proofs.Ytehkcgjiimfdjaa
/- The document's own one: what it has read when it begins. -/
namespace Go.Proofs.Ytehkcgjiimfdjaa
open Go.RowKit
section
variable {w0 w w' : World} {p q : Nat} {cv : Value} {G : RW}
theorem Wd.other (h : Wd w0 w p q cv G) {b : Nat} (hp : b ≠ p) (hq : b ≠ q) (he : blkOf G.ea ≠ some b) (hb : w0.heap.size ≤ b) (j : Nat) (v : Value) : Wd w0 (w.setCell ⟨b, j, none⟩ v) p q cv G :=
  h.kept (fun k hk => Below.heap_setCell _ _ _ _ (by
    rintro rfl
    rcases hk with e | e | e
    · exact hp e
    · exact hq e
    · exact he e)) (h.base.setCell hb _)
end
/-- Behind the first two rows of one: the task and its instruction are copied. -/
structure In1 (w0 V : World) (p q : Nat) (a : Option Addr) (len cap : Nat) (code : List (List Ins)) (G : RW) (i tb : Nat) (pl : Nat) (r0 r1 r2 r3 cd wt xo xa xb xc : Int) : Prop where
  wd : Wd w0 V p q (.slice a len cap) G
  hi : i < G.ts.length
  t : G.t i = ⟨pl, [r0, r1, r2, r3], false, false, cd, wt⟩
  ht : Box V tb 54 #[.int .i64 (pl : Int), .int .i64 r0, .int .i64 r1, .int .i64 r2, .int .i64 r3, .bool false, .bool false, .int .i64 cd, .int .i64 wt]
  hx : Box V (tb + 1) 37 #[.int .i64 xo, .int .i64 xa, .int .i64 xb, .int .i64 xc]
  np : p < tb
  nq : q < tb
  ne : ∀ b, blkOf G.ea = some b → b < tb
  nb : w0.heap.size ≤ tb
section
variable {w0 V : World} {p q : Nat} {a : Option Addr} {len cap : Nat} {code : List (List Ins)} {G : RW} {i tb pl : Nat} {r0 r1 r2 r3 cd wt xo xa xb xc : Int}
/-- The copied task's own block does not count. -/
theorem In1.own (h : In1 w0 V p q a len cap code G i tb pl r0 r1 r2 r3 cd wt xo xa xb xc) {W : World} {G' : RW} (hw : Wd w0 W p q (.slice a len cap) G') (he : G'.ea = G.ea) (j : Nat) (v : Value) : Wd w0 (W.setCell ⟨tb, j, none⟩ v) p q (.slice a len cap) G' :=
  hw.other (by have := h.np; omega) (by have := h.nq; omega) (fun e => by rw [he] at e; have := h.ne tb e; omega) h.nb j v
theorem In1.cells (h : In1 w0 V p q a len cap code G i tb pl r0 r1 r2 r3 cd wt xo xa xb xc) : V.cell? ⟨tb, 0, none⟩ = some (.int .i64 (pl : Int)) ∧ V.cell? ⟨tb, 1, none⟩ = some (.int .i64 r0) ∧ V.cell? ⟨tb, 2, none⟩ = some (.int .i64 r1) ∧ V.cell? ⟨tb, 3, none⟩ = some (.int .i64 r2) ∧ V.cell? ⟨tb, 4, none⟩ = some (.int .i64 r3) ∧ V.cell? ⟨tb, 5, none⟩ = some (.bool false) ∧ V.cell? ⟨tb, 6, none⟩ = some (.bool false) ∧ V.cell? ⟨tb, 7, none⟩ = some (.int .i64 cd) ∧ V.cell? ⟨tb, 8, none⟩ = some (.int .i64 wt) :=
  ⟨h.ht.cell 0, h.ht.cell 1, h.ht.cell 2, h.ht.cell 3, h.ht.cell 4, h.ht.cell 5, h.ht.cell 6, h.ht.cell 7, h.ht.cell 8⟩
theorem In1.softs (h : In1 w0 V p q a len cap code G i tb pl r0 r1 r2 r3 cd wt xo xa xb xc) : V.frozen? ⟨tb, 0, none⟩ = false ∧ V.frozen? ⟨tb, 1, none⟩ = false ∧ V.frozen? ⟨tb, 2, none⟩ = false ∧ V.frozen? ⟨tb, 3, none⟩ = false ∧ V.frozen? ⟨tb, 4, none⟩ = false ∧ V.frozen? ⟨tb, 5, none⟩ = false ∧ V.frozen? ⟨tb, 6, none⟩ = false ∧ V.frozen? ⟨tb, 7, none⟩ = false ∧ V.frozen? ⟨tb, 8, none⟩ = false :=
  ⟨h.ht.soft 0, h.ht.soft 1, h.ht.soft 2, h.ht.soft 3, h.ht.soft 4, h.ht.soft 5, h.ht.soft 6, h.ht.soft 7, h.ht.soft 8⟩
theorem In1.xcells (h : In1 w0 V p q a len cap code G i tb pl r0 r1 r2 r3 cd wt xo xa xb xc) : V.cell? ⟨tb + 1, 0, none⟩ = some (.int .i64 xo) ∧ V.cell? ⟨tb + 1, 1, none⟩ = some (.int .i64 xa) ∧ V.cell? ⟨tb + 1, 2, none⟩ = some (.int .i64 xb) ∧ V.cell? ⟨tb + 1, 3, none⟩ = some (.int .i64 xc) :=
  ⟨h.hx.cell 0, h.hx.cell 1, h.hx.cell 2, h.hx.cell 3⟩
theorem Wd.softQ {w : World} {cv : Value} (h : Wd w0 w p q cv G) (i : Nat) : w.frozen? ⟨q, i * 9, none⟩ = false ∧ w.frozen? ⟨q, i * 9 + 1, none⟩ = false ∧ w.frozen? ⟨q, i * 9 + 2, none⟩ = false ∧ w.frozen? ⟨q, i * 9 + 3, none⟩ = false ∧ w.frozen? ⟨q, i * 9 + 4, none⟩ = false ∧ w.frozen? ⟨q, i * 9 + 5, none⟩ = false ∧ w.frozen? ⟨q, i * 9 + 6, none⟩ = false ∧ w.frozen? ⟨q, i * 9 + 7, none⟩ = false ∧ w.frozen? ⟨q, i * 9 + 8, none⟩ = false :=
  ⟨h.row.soft _, h.row.soft _, h.row.soft _, h.row.soft _, h.row.soft _, h.row.soft _, h.row.soft _, h.row.soft _, h.row.soft _⟩
end
/-- What a step begins with. -/
structure Go1 (w0 w : World) (p q : Nat) (a : Option Addr) (len cap : Nat) (code : List (List Ins)) (G : RW) (i : Nat) : Prop where
  wd : Wd w0 w p q (.slice a len cap) G
  cdat : CdAt w0 a len cap code
  ok : Gok code G
  hi : i < G.ts.length
  en : (G.t i).en = false
  bd : (G.t i).bd = false
theorem Go1.reads {w0 w : World} {p q : Nat} {a : Option Addr} {len cap : Nat} {code : List (List Ins)} {G : RW} {i : Nat} (h : Go1 w0 w p q a len cap code G i) : ∃ (pl : Nat) (r0 r1 r2 r3 cd wt xo xa xb xc : Int) (cb co ib io ic cl : Nat), a = some ⟨cb, co, none⟩ ∧ G.t i = ⟨pl, [r0, r1, r2, r3], false, false, cd, wt⟩ ∧ insAt code i pl = ⟨xo, xa, xb, xc⟩ ∧ insOk ⟨xo, xa, xb, xc⟩ (code.getD i []).length = true ∧ wt ≤ 15 ∧ pl < cl ∧ pl < 64 ∧ cl = (code.getD i []).length ∧
    w.cell? ⟨cb, co + i, none⟩ = some (.slice (some ⟨ib, io, none⟩) cl ic) ∧ w.cell? ⟨ib, io + pl * 4, none⟩ = some (.int .i64 xo) ∧ w.cell? ⟨ib, io + pl * 4 + 1, none⟩ = some (.int .i64 xa) ∧ w.cell? ⟨ib, io + pl * 4 + 2, none⟩ = some (.int .i64 xb) ∧ w.cell? ⟨ib, io + pl * 4 + 3, none⟩ = some (.int .i64 xc) ∧ cl ≤ ic ∧ ic ≤ 9223372036854775807 ∧ len = G.ts.length ∧ len ≤ cap ∧ cap ≤ 9223372036854775807 ∧ cb < w.heap.size ∧ ib < w.heap.size ∧
    (∀ tb, tb = w.heap.size → In1 w0 ((w.alloc (.cells #[.int .i64 (pl : Int), .int .i64 r0, .int .i64 r1, .int .i64 r2, .int .i64 r3, .bool false, .bool false, .int .i64 cd, .int .i64 wt] 54)).alloc (.cells #[.int .i64 xo, .int .i64 xa, .int .i64 xb, .int .i64 xc] 37)).drew p q a len cap code G i tb pl r0 r1 r2 r3 cd wt xo xa xb xc) := by
  have hil : i < code.length := by rw [h.ok.many]; exact h.hi
  have hO := h.ok.ok i hil h.en h.bd
  have hr := h.wd.reg h.hi
  have hcok := h.ok.good i hil
  have hlen : len = G.ts.length := by rw [← h.cdat.size]; exact h.ok.many
  have hC := h.cdat.below (Nat.le_refl _) h.wd.base
  obtain ⟨cb, co, ib, io, ic, ha, k0, j0, j1, j2, j3, hic, hicm, hcb, hib⟩ := hC.insAt (i := i) (k := (G.t i).pl) (by rw [hlen]; exact h.hi) hO.2
  have hins := code_ins hcok hO.2
  have hI : (code.getD i []).getD (G.t i).pl ins0 = insAt code i (G.t i).pl := rfl
  rw [hI] at hins
  have h64 : (code.getD i []).length ≤ 64 := by unfold codeOk at hcok; simp at hcok; simpa using hcok.1
  have en := h.en
  have bd := h.bd
  generalize hT : G.t i = T at *
  obtain ⟨pl, r, en, bd, cd, wt⟩ := T
  simp only at hr hO j0 j1 j2 j3 hins en bd
  subst en bd
  match r, hr with
  | [r0, r1, r2, r3], _ =>
    generalize hX : insAt code i pl = X at *
    obtain ⟨xo, xa, xb, xc⟩ := X
    refine ⟨pl, r0, r1, r2, r3, cd, wt, xo, xa, xb, xc, cb, co, ib, io, ic, _, ha, rfl, hX, hins, hO.1, hO.2, Nat.lt_of_lt_of_le hO.2 h64, rfl, k0, j0, j1, j2, j3, hic, hicm, hlen, hC.le, hC.max, hcb, hib, ?_⟩
    rintro tb rfl
    refine ⟨((h.wd.alloc _).alloc _).drew, h.hi, hT, ?_, ?_, tag_lt h.wd.tagP, tag_lt h.wd.tagQ, fun b e => tag_lt (h.wd.tagE e), h.wd.base.size⟩
    · exact (Box.new w _ _).alloc _
    · have := Box.new (w.alloc (.cells #[.int .i64 (pl : Int), .int .i64 r0, .int .i64 r1, .int .i64 r2, .int .i64 r3, .bool false, .bool false, .int .i64 cd, .int .i64 wt] 54)) 37 #[.int .i64 xo, .int .i64 xa, .int .i64 xb, .int .i64 xc]
      rw [show (w.alloc (.cells #[.int .i64 (pl : Int), .int .i64 r0, .int .i64 r1, .int .i64 r2, .int .i64 r3, .bool false, .bool false, .int .i64 cd, .int .i64 wt] 54)).heap.size = w.heap.size + 1 by simp] at this
      exact this
end Go.Proofs.Ytehkcgjiimfdjaa
/- The document's own step, plainly. -/
namespace Go.Proofs.Ytehkcgjiimfdjaa
open Go.RowKit
def RW.setT (G : RW) (i : Nat) (x : RT) : RW := { G with ts := G.ts.set i x }
def wakeL (c : Int) (all : Bool) : List RT → List RT
  | [] => []
  | x :: r => if x.cd = c then { x with cd := -1 } :: (if all then wakeL c all r else r) else x :: wakeL c all r
def RW.wake (G : RW) (c : Int) (all : Bool) : RW := { G with ts := wakeL c all G.ts }
def RW.has_ (G : RW) (m : Nat) (v : Int) : RW := { G with has := G.has.set m v }
def RW.put_ (G : RW) (m : Nat) (v : Int) : RW := { G with cells := G.cells.set m v }
def RT.next (t : RT) : RT := { t with pl := t.pl + 1 }
def RT.reg (t : RT) (k : Nat) (v : Int) : RT := { t with r := t.r.set k v }
def RW.one (code : List (List Ins)) (G : RW) (i : Nat) : RW :=
  if 0 ≤ (G.t i).wt then (G.has_ (G.t i).wt.toNat i).setT i { (G.t i).next with wt := -1 }
  else if (insAt code i (G.t i).pl).op = 1 then G.setT i ((G.t i).reg (insAt code i (G.t i).pl).a.toNat (G.cells.getD (insAt code i (G.t i).pl).b.toNat 0)).next
  else if (insAt code i (G.t i).pl).op = 2 then (G.put_ (insAt code i (G.t i).pl).a.toNat ((G.t i).r.getD (insAt code i (G.t i).pl).b.toNat 0)).setT i (G.t i).next
  else if (insAt code i (G.t i).pl).op = 3 then
    (if G.cells.getD (insAt code i (G.t i).pl).a.toNat 0 = (G.t i).r.getD (insAt code i (G.t i).pl).b.toNat 0 then (G.put_ (insAt code i (G.t i).pl).a.toNat ((G.t i).r.getD (insAt code i (G.t i).pl).c.toNat 0)).setT i ((G.t i).reg 3 1).next else G.setT i ((G.t i).reg 3 0).next)
  else if (insAt code i (G.t i).pl).op = 4 then G.setT i ((G.t i).reg (insAt code i (G.t i).pl).a.toNat (insAt code i (G.t i).pl).b).next
  else if (insAt code i (G.t i).pl).op = 5 then G.setT i ((G.t i).reg (insAt code i (G.t i).pl).a.toNat (wrap64 ((G.t i).r.getD (insAt code i (G.t i).pl).a.toNat 0 + (insAt code i (G.t i).pl).b))).next
  else if (insAt code i (G.t i).pl).op = 6 then G.setT i { G.t i with pl := if (G.t i).r.getD (insAt code i (G.t i).pl).a.toNat 0 = 0 then (insAt code i (G.t i).pl).b.toNat else (G.t i).pl + 1 }
  else if (insAt code i (G.t i).pl).op = 7 then G.setT i { G.t i with pl := (insAt code i (G.t i).pl).b.toNat }
  else if (insAt code i (G.t i).pl).op = 8 then (G.has_ (insAt code i (G.t i).pl).a.toNat i).setT i (G.t i).next
  else if (insAt code i (G.t i).pl).op = 9 then (if G.has.getD (insAt code i (G.t i).pl).a.toNat 0 = (i : Int) then (G.has_ (insAt code i (G.t i).pl).a.toNat (-1)).setT i (G.t i).next else G.setT i { (G.t i).next with bd := true })
  else if (insAt code i (G.t i).pl).op = 10 then (if G.has.getD (insAt code i (G.t i).pl).b.toNat 0 = (i : Int) then (G.has_ (insAt code i (G.t i).pl).b.toNat (-1)).setT i { G.t i with cd := (insAt code i (G.t i).pl).a, wt := (insAt code i (G.t i).pl).b } else G.setT i { (G.t i).next with bd := true })
  else if (insAt code i (G.t i).pl).op = 11 then (G.wake (insAt code i (G.t i).pl).a false).setT i (G.t i).next
  else if (insAt code i (G.t i).pl).op = 12 then (G.wake (insAt code i (G.t i).pl).a true).setT i (G.t i).next
  else if (insAt code i (G.t i).pl).op = 13 then ({ G with em := G.em ++ [(i, (G.t i).r.getD (insAt code i (G.t i).pl).a.toNat 0)] } : RW).setT i (G.t i).next
  else G.setT i { (G.t i).next with en := true }
/-- Behind a step: where the emits lie may have changed. -/
def OneAt (w0 w' : World) (p q : Nat) (cv : Value) (G' : RW) : Prop := ∃ ea ec, Wd w0 w' p q cv { G' with ea := ea, ec := ec }
theorem Wd.one {w0 w' : World} {p q : Nat} {cv : Value} {G' : RW} (h : Wd w0 w' p q cv G') : OneAt w0 w' p q cv G' := ⟨G'.ea, G'.ec, h⟩
theorem insReg {x : Ins} {n : Nat} (h : insOk x n = true) : (x.op = 1 → (0 ≤ x.a ∧ x.a < 4) ∧ 0 ≤ x.b ∧ x.b < 16) ∧ (x.op = 2 → (0 ≤ x.a ∧ x.a < 16) ∧ 0 ≤ x.b ∧ x.b < 4) ∧ (x.op = 3 → (0 ≤ x.a ∧ x.a < 16) ∧ (0 ≤ x.b ∧ x.b < 4) ∧ 0 ≤ x.c ∧ x.c < 4) ∧ (x.op = 4 ∨ x.op = 5 ∨ x.op = 13 → 0 ≤ x.a ∧ x.a < 4) ∧ (x.op = 6 → (0 ≤ x.a ∧ x.a < 4) ∧ 0 ≤ x.b ∧ x.b ≤ (n : Int)) ∧ (x.op = 7 → 0 ≤ x.b ∧ x.b ≤ (n : Int)) ∧ (x.op = 8 ∨ x.op = 9 ∨ x.op = 11 ∨ x.op = 12 → 0 ≤ x.a ∧ x.a < 16) ∧ (x.op = 10 → (0 ≤ x.b ∧ x.b < 16) ∧ 0 ≤ x.a ∧ x.a < 16) := by
  refine ⟨fun e => ?_, fun e => ?_, fun e => ?_, fun e => ?_, fun e => ?_, fun e => ?_, fun e => ?_, fun e => ?_⟩
  · simpa [insOk, isReg, isSh, e] using h
  · simpa [insOk, isReg, isSh, e] using h
  · simpa [insOk, isReg, isSh, e] using h
  · rcases e with e | e | e <;> simpa [insOk, isReg, isSh, e] using h
  · simpa [insOk, isReg, isSh, e] using h
  · simpa [insOk, isReg, isSh, e] using h
  · rcases e with e | e | e | e <;> simpa [insOk, isReg, isSh, e] using h
  · simpa [insOk, isReg, isSh, e] using h
end Go.Proofs.Ytehkcgjiimfdjaa
/- The contracts of the document's own unlock and wake. -/
namespace Go.Proofs.Ytehkcgjiimfdjaa
open Go.RowKit
set_option maxRecDepth 100000 in
set_option maxHeartbeats 1000000 in
theorem unlock_at {w0 w : World} {p q : Nat} {cv : Value} {G : RW} (h : Wd w0 w p q cv G) (i m : Nat) (hm : m < 16) :
    Calls Try.prog 32 #[at_ p, .int .i64 (i : Int), .int .i64 (m : Int)] w fun e w' => e = .returned (.bool (decide (G.has.getD m 0 = (i : Int)))) ∧ Wd w0 w' p q cv (if G.has.getD m 0 = (i : Int) then G.has_ m (-1) else G) ∧ Chg (fun k => k = p) w w' ∧ w'.heap.size = w.heap.size := by
  obtain ⟨_, _, _, d3, _, _⟩ := h.cell
  have e2 := d3 m hm
  have sA := h.box.soft (18 + m)
  have HW : Hid (Wd w0 w p q cv G) := h
  have hx1 : (0 : Int) ≤ (m : Int) := by omega
  have hx2 : (m : Int) < 16 := by omega
  clear d3 h
  generalize hv : G.has.getD m 0 = v at e2 ⊢
  by_cases hz : v = (i : Int)
  · subst hz
    go_enter Try.func32, Try.ntmps32
    go_wp2
    go_returns
    exact ⟨rfl, HW.out.setHas hm (-1), (Chg.refl (fun k => k = p) _).set (p := p) (fun _ => rfl) _ _, by simp⟩
  · go_enter Try.func32, Try.ntmps32
    go_wp2
    go_returns
    exact ⟨rfl, HW.out, Chg.refl _ _, rfl⟩
theorem wakeL_len (c : Int) (all : Bool) : ∀ l : List RT, (wakeL c all l).length = l.length
  | [] => rfl
  | x :: r => by
    have ih := wakeL_len c all r
    unfold wakeL
    split
    · cases all <;> simp [ih]
    · simp [ih]
/-- Those up to a place are told, the others not yet. -/
def wakeTo (c : Int) (l : List RT) (k : Nat) : List RT := wakeL c true (l.take k) ++ l.drop k
theorem wakeTo_succ {c : Int} {l : List RT} {k : Nat} (h : k < l.length) : wakeTo c l (k + 1) = if (l.getD k rt0).cd = c then (wakeTo c l k).set k { l.getD k rt0 with cd := -1 } else wakeTo c l k := by
  have key : ∀ (a : List RT) (x : RT), wakeL c true (a ++ [x]) = wakeL c true a ++ (if x.cd = c then [{ x with cd := -1 }] else [x]) := by
    intro a x
    induction a with
    | nil => by_cases hx : x.cd = c <;> simp [wakeL, hx]
    | cons y r ih =>
      rw [List.cons_append, wakeL, wakeL]
      split
      · simp [ih]
      · simp [ih]
  have e1 : l.take (k + 1) = l.take k ++ [l.getD k rt0] := by
    rw [List.take_add_one, List.getElem?_eq_getElem h]
    simp [List.getD, h]
  have e2 : l.drop k = l.getD k rt0 :: l.drop (k + 1) := by
    rw [List.drop_eq_getElem_cons h]
    simp [List.getD, h]
  have hl : (wakeL c true (l.take k)).length = k := by rw [wakeL_len, List.length_take]; omega
  unfold wakeTo
  rw [e1, key, e2]
  split
  · rw [List.set_append_right _ _ (by omega), hl]
    simp
  · simp
theorem wakeTo_at {c : Int} {l : List RT} {k : Nat} (h : k < l.length) : (wakeTo c l k).getD k rt0 = l.getD k rt0 := by
  have hl : (wakeL c true (l.take k)).length = k := by rw [wakeL_len, List.length_take]; omega
  unfold wakeTo
  simp [List.getD, List.getElem?_append_right (show (wakeL c true (l.take k)).length ≤ k by omega), hl]
/-- The first one that waits for it. -/
theorem wakeL_first {c : Int} : ∀ {l : List RT} {k : Nat}, k < l.length → (∀ j, j < k → (l.getD j rt0).cd ≠ c) → (l.getD k rt0).cd = c → wakeL c false l = l.set k { l.getD k rt0 with cd := -1 }
  | [], k, h, _, _ => by simp at h
  | x :: r, 0, _, _, h0 => by
    unfold wakeL
    have : x.cd = c := by simpa [List.getD] using h0
    rw [if_pos this]
    simp [List.getD]
  | x :: r, k + 1, h, hj, h0 => by
    have hx : x.cd ≠ c := by have := hj 0 (by omega); simpa [List.getD] using this
    unfold wakeL
    rw [if_neg hx, wakeL_first (l := r) (k := k) (by simpa using h) (fun j hj' => by have := hj (j + 1) (by omega); simpa [List.getD] using this) (by simpa [List.getD] using h0)]
    simp [List.getD]
theorem wakeL_none {c : Int} {all : Bool} : ∀ {l : List RT}, (∀ j, j < l.length → (l.getD j rt0).cd ≠ c) → wakeL c all l = l
  | [], _ => rfl
  | x :: r, h => by
    have hx : x.cd ≠ c := by have := h 0 (by simp); simpa [List.getD] using this
    unfold wakeL
    rw [if_neg hx, wakeL_none (l := r) (fun j hj => by have := h (j + 1) (by simpa using hj); simpa [List.getD] using this)]
theorem wakeL_at {c : Int} {all : Bool} : ∀ {l : List RT} {i : Nat}, (l.getD i rt0).cd ≠ c → (wakeL c all l).getD i rt0 = l.getD i rt0
  | [], i, _ => rfl
  | x :: r, 0, h => by
    have hx : x.cd ≠ c := by simpa [List.getD] using h
    unfold wakeL
    rw [if_neg hx]
    rfl
  | x :: r, i + 1, h => by
    have ih := wakeL_at (c := c) (all := all) (l := r) (i := i) (by simpa [List.getD] using h)
    unfold wakeL
    split
    · cases all
      · simp [List.getD]
      · simpa [List.getD] using ih
    · simpa [List.getD] using ih
theorem cells_cd {x : RT} (h : x.r.length = 4) (v : Int) : ({ x with cd := v } : RT).cells = x.cells.set 7 (.int .i64 v) := by
  obtain ⟨pl, r, en, bd, cd, wt⟩ := x
  match r, h with
  | [r0, r1, r2, r3], _ => rfl
set_option maxRecDepth 100000 in
set_option maxHeartbeats 1000000 in
theorem wake_all {w0 w : World} {p q : Nat} {cv : Value} {G : RW} (h : Wd w0 w p q cv G) (c : Int) :
    Calls Try.prog 33 #[at_ p, .int .i64 c, .bool true] w fun e w' => e = .returned (.tuple #[]) ∧ Wd w0 w' p q cv (G.wake c true) ∧ Chg (fun k => k = q) w w' ∧ w'.heap.size = w.heap.size := by
  have hmany := h.many
  have HW0 : Hid (Wd w0 w p q cv { G with ts := wakeTo c G.ts 0 }) := by
    have e : wakeTo c G.ts 0 = G.ts := by simp [wakeTo, wakeL]
    unfold Hid
    rw [e]
    exact h
  obtain ⟨n, HN⟩ : ∃ n, Hid (n = G.ts.length) := ⟨_, rfl⟩
  have hn8 : n ≤ 8 := by rw [HN.out]; exact hmany
  have HLEN : Hid (∀ k, k ≤ n → (wakeTo c G.ts k).length = n) := fun k hk => by
    unfold wakeTo
    rw [List.length_append, wakeL_len, List.length_take, List.length_drop, HN.out]
    rw [HN.out] at hk
    omega
  clear h hmany
  go_enter Try.func33, Try.ntmps33
  go_wp2_with fail
  go_loopw [6] (fun ix wr => ∃ k : Nat, k ≤ n ∧ ix = .int .i64 (k : Int) ∧ Hid (Wd w0 wr p q cv { G with ts := wakeTo c G.ts k }) ∧ Hid (Chg (fun k => k = q) w wr) ∧ Hid (wr.heap.size = w.heap.size)) (fun ix _ => n - (intOf ix).toNat)
  case atStart => exact ⟨0, Nat.zero_le _, rfl, HW0, Chg.refl _ _, rfl⟩
  case round =>
    obtain ⟨k, hk, rfl, HW, HC, HS⟩ := hrel
    obtain ⟨_, b1, _⟩ := HW.out.cell
    simp only at b1
    rw [HLEN.out k hk] at b1
    by_cases hlt : k < n
    · have hkl : k < (wakeTo c G.ts k).length := by rw [HLEN.out k hk]; exact hlt
      have hkg : k < G.ts.length := by rw [← HN.out]; exact hlt
      have c7 := (HW.out.tcell hkl).2.2.2.2.2.2.2.1
      have s7 := HW.out.row.soft (k * 9 + 7)
      have hat : ({ G with ts := wakeTo c G.ts k } : RW).t k = G.ts.getD k rt0 := wakeTo_at hkg
      rw [hat] at c7
      have hr : (G.ts.getD k rt0).r.length = 4 := by rw [← hat]; exact HW.out.reg hkl
      have HNX : Hid (wakeTo c G.ts (k + 1) = if (G.ts.getD k rt0).cd = c then (wakeTo c G.ts k).set k { G.ts.getD k rt0 with cd := -1 } else wakeTo c G.ts k) := wakeTo_succ hkg
      have hx1 : (0 : Int) ≤ (k : Int) := by omega
      have hx2 : (k : Int) < (n : Int) := by omega
      generalize hX : G.ts.getD k rt0 = X at *
      obtain ⟨xpl, xr, xen, xbd, xcd, xwt⟩ := X
      simp only at c7 HNX hr
      by_cases hz : xcd = c
      · subst hz
        have HP1 : Hid (Wd w0 (wr.setCell ⟨q, k * 9 + 7, none⟩ (.int .i64 (-1))) p q cv { G with ts := wakeTo xcd G.ts (k + 1) }) := by
          unfold Hid
          rw [HNX.out, if_pos rfl]
          exact HW.out.put1 hkl (by omega) hr (by rw [hat]; exact cells_cd (x := ⟨xpl, xr, xen, xbd, xcd, xwt⟩) hr (-1))
        have HC1 : Hid (Chg (fun k => k = q) w (wr.setCell ⟨q, k * 9 + 7, none⟩ (.int .i64 (-1)))) := HC.out.set (p := q) (fun _ => rfl) _ _
        go_wp2
        go_roundw
        case rel => exact ⟨k + 1, by omega, by go_num, HP1, HC1, by unfold Hid; simp; exact HS.out⟩
        case measure => simp [intOf]; omega
      · have HP1 : Hid (Wd w0 wr p q cv { G with ts := wakeTo c G.ts (k + 1) }) := by
          unfold Hid
          rw [HNX.out, if_neg hz]
          exact HW.out
        go_wp2
        go_roundw
        case rel => exact ⟨k + 1, by omega, by go_num, HP1, HC, HS⟩
        case measure => simp [intOf]; omega
    · obtain rfl : k = n := by omega
      go_wp2
      go_returns
      refine ⟨rfl, ?_, HC.out, HS.out⟩
      have e : wakeTo c G.ts k = wakeL c true G.ts := by
        unfold wakeTo
        rw [HN.out, List.take_length, List.drop_length, List.append_nil]
      have := HW.out
      rw [e] at this
      exact this
set_option maxRecDepth 100000 in
set_option maxHeartbeats 1000000 in
theorem wake_one {w0 w : World} {p q : Nat} {cv : Value} {G : RW} (h : Wd w0 w p q cv G) (c : Int) :
    Calls Try.prog 33 #[at_ p, .int .i64 c, .bool false] w fun e w' => e = .returned (.tuple #[]) ∧ Wd w0 w' p q cv (G.wake c false) ∧ Chg (fun k => k = q) w w' ∧ w'.heap.size = w.heap.size := by
  have hmany := h.many
  obtain ⟨_, b1, _⟩ := h.cell
  have HW : Hid (Wd w0 w p q cv G) := h
  obtain ⟨n, HN⟩ : ∃ n, Hid (n = G.ts.length) := ⟨_, rfl⟩
  have hn8 : n ≤ 8 := by rw [HN.out]; exact hmany
  rw [← HN.out] at b1
  clear h hmany
  go_enter Try.func33, Try.ntmps33
  go_wp2_with fail
  go_loopw [6] (fun ix wr => ∃ k : Nat, k ≤ n ∧ ix = .int .i64 (k : Int) ∧ wr = w ∧ Hid (∀ j, j < k → (G.ts.getD j rt0).cd ≠ c)) (fun ix _ => n - (intOf ix).toNat)
  case atStart => exact ⟨0, Nat.zero_le _, rfl, rfl, fun j hj => absurd hj (Nat.not_lt_zero _)⟩
  case round =>
    obtain ⟨k, hk, rfl, rfl, HNO⟩ := hrel
    by_cases hlt : k < n
    · have hkg : k < G.ts.length := by rw [← HN.out]; exact hlt
      have c7 := (HW.out.tcell hkg).2.2.2.2.2.2.2.1
      have s7 := HW.out.row.soft (k * 9 + 7)
      have hat : G.t k = G.ts.getD k rt0 := rfl
      rw [hat] at c7
      have hr : (G.ts.getD k rt0).r.length = 4 := HW.out.reg hkg
      have hx1 : (0 : Int) ≤ (k : Int) := by omega
      have hx2 : (k : Int) < (n : Int) := by omega
      obtain ⟨xcd, HXC⟩ : ∃ x, Hid (x = (G.ts.getD k rt0).cd) := ⟨_, rfl⟩
      rw [← HXC.out] at c7
      by_cases hz : xcd = c
      · subst hz
        have HP1 : Hid (Wd w0 (wr.setCell ⟨q, k * 9 + 7, none⟩ (.int .i64 (-1))) p q cv (G.wake xcd false)) := by
          unfold Hid RW.wake
          rw [wakeL_first hkg HNO.out HXC.out.symm]
          exact HW.out.put1 hkg (by omega) (x := { G.ts.getD k rt0 with cd := -1 }) hr (cells_cd hr (-1))
        go_wp2
        go_returns
        exact ⟨rfl, HP1.out, (Chg.refl (fun k => k = q) _).set (p := q) (fun _ => rfl) _ _, by simp⟩
      · go_wp2
        go_roundw
        case rel =>
          refine ⟨k + 1, by omega, by go_num, trivial, fun j hj => ?_⟩
          by_cases e : j = k
          · rw [e, ← HXC.out]
            exact hz
          · exact HNO.out j (by omega)
        case measure => simp [intOf]; omega
    · obtain rfl : k = n := by omega
      go_wp2
      go_returns
      refine ⟨rfl, ?_, Chg.refl _ _, rfl⟩
      unfold RW.wake
      rw [wakeL_none (fun j hj => HNO.out j (by rw [HN.out]; exact hj))]
      exact HW.out
end Go.Proofs.Ytehkcgjiimfdjaa
