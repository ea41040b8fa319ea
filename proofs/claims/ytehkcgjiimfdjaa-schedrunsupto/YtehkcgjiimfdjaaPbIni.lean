/- How the document's own Run makes its world, plainly. -/
import Derived.Test.YtehkcgjiimfdjaaR5Run
import Derived.Laws.MakeOwn
namespace Go.Proofs.Ytehkcgjiimfdjaa
open Go.RowKit
def zT : Array Value := #[.int .i64 0, .int .i64 0, .int .i64 0, .int .i64 0, .int .i64 0, .bool false, .bool false, .int .i64 0, .int .i64 0]
theorem infoTaskR : (Try.prog.info? 54).map (fun i => (i.zero, i.size, i.bytes)) = some (some (.agg zT), 9, 64) := by kernel_rfl
theorem made_tasks {n : Nat} (h : n ≤ 8) : madeCells zT (n * 9) = (cellsT (List.replicate n rt0)).toArray := by
  rcases (by omega : n = 0 ∨ n = 1 ∨ n = 2 ∨ n = 3 ∨ n = 4 ∨ n = 5 ∨ n = 6 ∨ n = 7 ∨ n = 8) with rfl | rfl | rfl | rfl | rfl | rfl | rfl | rfl | rfl <;> kernel_rfl
theorem make_tasks {n : Nat} (h : n ≤ 8) (W : World) : (Instr.makeSlice 48 (.int .i64 (n : Int)) (.int .i64 (n : Int))).run Try.prog W = .ok (.slice (some ⟨W.heap.size, 0, none⟩) n n) (W.alloc (.cells (cellsT (List.replicate n rt0)).toArray 54)) := by
  obtain ⟨i, hi, hz0, hz1, hz2⟩ := info_parts infoTaskR
  have := run_make (P := Try.prog) W _ _ i (.agg zT) Try.underlying48 hi hz0 .i64 .i64 n n (by omega) (by omega) (by rw [hz2]; omega) (by omega)
  rw [this, hz1, ← made_tasks h]
  simp [Value.cells]
/-- The world as it is made. -/
def rnew (n : Nat) : RW := ⟨List.replicate 16 0, List.replicate 16 0, List.replicate n rt0, [], 0, none, 0⟩
def hasTo : Nat → List Int
  | 0 => List.replicate 16 0
  | k + 1 => (hasTo k).set k (-1)
theorem hasTo_len : ∀ k, (hasTo k).length = 16
  | 0 => rfl
  | k + 1 => by rw [hasTo, List.length_set, hasTo_len k]
theorem hasTo_all : hasTo 16 = List.replicate 16 (-1) := by decide
def rt1 : RT := ⟨0, [0, 0, 0, 0], false, false, -1, -1⟩
def tsTo (n : Nat) : Nat → List RT
  | 0 => List.replicate n rt0
  | k + 1 => (tsTo n k).set k rt1
theorem tsTo_len (n : Nat) : ∀ k, (tsTo n k).length = n
  | 0 => by simp [tsTo]
  | k + 1 => by rw [tsTo, List.length_set, tsTo_len n k]
theorem tsTo_at (n : Nat) : ∀ (k i : Nat), i < n → (tsTo n k)[i]? = some (if i < k then rt1 else rt0)
  | 0, i, h => by simp [tsTo, h]
  | k + 1, i, h => by
    have hl := tsTo_len n k
    have ih := tsTo_at n k i h
    rw [tsTo]
    by_cases e : k = i
    · subst e
      rw [List.getElem?_set_self (by omega), if_pos (by omega)]
    · rw [List.getElem?_set_ne e, ih]
      by_cases h2 : i < k
      · rw [if_pos h2, if_pos (by omega)]
      · rw [if_neg h2, if_neg (by omega)]
theorem tsTo_all (code : List (List Ins)) : tsTo code.length code.length = code.map (fun _ => rt1) := by
  refine List.ext_getElem? fun i => ?_
  by_cases h : i < code.length
  · rw [tsTo_at _ _ _ h, if_pos h]
    simp [h]
  · have hl := tsTo_len code.length code.length
    rw [List.getElem?_eq_none (by omega), List.getElem?_eq_none (by simp; omega)]
def csTo (cs : List Int) : Nat → List Int
  | 0 => List.replicate 16 0
  | k + 1 => (csTo cs k).set k (cs.getD k 0)
theorem csTo_len (cs : List Int) : ∀ k, (csTo cs k).length = 16
  | 0 => rfl
  | k + 1 => by rw [csTo, List.length_set, csTo_len cs k]
theorem csTo_at (cs : List Int) : ∀ (k i : Nat), i < 16 → (csTo cs k)[i]? = some (if i < k then cs.getD i 0 else 0)
  | 0, i, h => by
    rw [csTo, List.getElem?_replicate, if_pos h, if_neg (by omega)]
  | k + 1, i, h => by
    have hl := csTo_len cs k
    have ih := csTo_at cs k i h
    rw [csTo]
    by_cases e : k = i
    · subst e
      rw [List.getElem?_set_self (by omega), if_pos (by omega)]
    · rw [List.getElem?_set_ne e, ih]
      by_cases h2 : i < k
      · rw [if_pos h2, if_pos (by omega)]
      · rw [if_neg h2, if_neg (by omega)]
theorem csTo_all (cs : List Int) (h : cs.length ≤ 16) : csTo cs cs.length = cs ++ List.replicate (16 - cs.length) 0 := by
  refine List.ext_getElem? fun i => ?_
  by_cases hi : i < 16
  · rw [csTo_at _ _ _ hi]
    by_cases h2 : i < cs.length
    · rw [if_pos h2, List.getElem?_append_left h2]
      simp [List.getD, h2]
    · rw [if_neg h2, List.getElem?_append_right (by omega), List.getElem?_replicate, if_pos (by omega)]
  · have hl := csTo_len cs cs.length
    rw [List.getElem?_eq_none (by omega), List.getElem?_eq_none (by simp; omega)]
theorem rinit_eq (code : List (List Ins)) (cs : List Int) (h : cs.length ≤ 16) : (⟨csTo cs cs.length, hasTo 16, tsTo code.length code.length, [], 0, none, 0⟩ : RW) = rinit code cs := by
  rw [csTo_all cs h, hasTo_all, tsTo_all]
  rfl
theorem regs_new (n : Nat) : Regs (List.replicate n rt0) := fun x hx => by
  rw [(List.mem_replicate.1 hx).2]
  rfl
/-- The world that was made, in memory. -/
theorem Wd.made (w0 : World) (a : Option Addr) (len cap : Nat) (h : len ≤ 8) : Wd w0 ((w0.alloc (.cells (cellsT (List.replicate len rt0)).toArray 54)).alloc (.cells (wdL (.slice a len cap) w0.heap.size (rnew len)).toArray 51)) (w0.heap.size + 1) w0.heap.size (.slice a len cap) (rnew len) := by
  refine ⟨?_, (Box.new w0 _ _).alloc _, World.ownsRow_nil _ _ _ 2, by omega, Nat.le_refl _, ((Below.refl _ _).alloc (Nat.le_refl _) _).alloc (by simp) _, rfl, rfl, regs_new len, by simpa [rnew] using h⟩
  have := Box.new (w0.alloc (.cells (cellsT (List.replicate len rt0)).toArray 54)) 51 (wdL (.slice a len cap) w0.heap.size (rnew len)).toArray
  rw [show (w0.alloc (.cells (cellsT (List.replicate len rt0)).toArray 54)).heap.size = w0.heap.size + 1 by simp] at this
  exact this
theorem wdL_new (cv : Value) (q n : Nat) : wdL cv q (rnew n) = cv :: .slice (some ⟨q, 0, none⟩) n n :: (List.replicate 32 (.int .i64 0) ++ [.slice none 0 0, .int .i64 0]) := by
  unfold wdL rnew
  simp only [List.length_replicate]
  rfl
theorem cells_cdR {x : RT} (h : x.r.length = 4) (v : Int) : ({ x with cd := v } : RT).cells = x.cells.set 7 (.int .i64 v) := by
  obtain ⟨pl, r, en, bd, cd, wt⟩ := x
  match r, h with
  | [r0, r1, r2, r3], _ => rfl
theorem cells_wtR {x : RT} (h : x.r.length = 4) (v : Int) : ({ x with wt := v } : RT).cells = x.cells.set 8 (.int .i64 v) := by
  obtain ⟨pl, r, en, bd, cd, wt⟩ := x
  match r, h with
  | [r0, r1, r2, r3], _ => rfl
/-- A task is made ready: both its numbers are put. -/
theorem Wd.ready {w0 w : World} {p q : Nat} {cv : Value} {G : RW} {n : Nat} {k : Nat} (h : Wd w0 w p q cv { G with ts := tsTo n k }) (hk : k < n) : Wd w0 ((w.setCell ⟨q, k * 9 + 7, none⟩ (.int .i64 (-1))).setCell ⟨q, k * 9 + 8, none⟩ (.int .i64 (-1))) p q cv { G with ts := tsTo n (k + 1) } := by
  have hl := tsTo_len n k
  have ht : ({ G with ts := tsTo n k } : RW).t k = rt0 := by
    show (tsTo n k).getD k rt0 = rt0
    rw [List.getD, tsTo_at n k k hk, if_neg (by omega)]
    rfl
  have h1 := h.put1 (i := k) (j := 7) (by show k < (tsTo n k).length; omega) (by omega) (x := { rt0 with cd := -1 }) rfl (v := .int .i64 (-1)) (by rw [ht]; exact cells_cdR rfl _)
  have h2 := h1.put1 (i := k) (j := 8) (by show k < ((tsTo n k).set k _).length; simp; omega) (by omega) (x := rt1) rfl (v := .int .i64 (-1)) (by
    show rt1.cells = (((tsTo n k).set k _).getD k rt0).cells.set 8 _
    rw [getD_set_same _ _ _ (by omega)]
    rfl)
  have e : ((tsTo n k).set k { rt0 with cd := -1 }).set k rt1 = tsTo n (k + 1) := by rw [tsTo]; simp
  rw [← e]
  exact h2
end Go.Proofs.Ytehkcgjiimfdjaa
/- A turn of both worlds, plainly; the rows of the code, and the block of the result. -/
namespace Go.Proofs.Ytehkcgjiimfdjaa
open Go.RowKit
theorem one_steps (code : List (List Ins)) (G : RW) (i : Nat) : (G.one code i).steps = G.steps := by
  have key : ∀ {c : Prop} [Decidable c] {A B : RW}, A.steps = G.steps → B.steps = G.steps → (if c then A else B).steps = G.steps := by
    intro c _ A B h1 h2
    split <;> assumption
  unfold RW.one
  exact key rfl (key rfl (key rfl (key (key rfl rfl) (key rfl (key rfl (key rfl (key rfl (key rfl (key (key rfl rfl) (key (key rfl rfl) (key rfl (key rfl (key rfl rfl)))))))))))))
/-- What a turn begins with. -/
theorem sim_goes {code : List (List Ins)} {C : PB} {G : RW} (hS : Sim code C G) {i : Nat} (hi : i < C.ts.length) (hg : (C.t i).ph = 0 ∨ (C.t i).ph = 2) : i < G.ts.length ∧ (G.t i).en = false ∧ (G.t i).bd = false ∧ (G.t i).cd < 0 := by
  refine ⟨by rw [hS.len]; exact hi, ?_⟩
  rcases hg with e | e
  · obtain ⟨_, h2, h3, h4, _⟩ := (hS.ts i hi).go e
    exact ⟨h2, h3, by rw [h4]; decide⟩
  · obtain ⟨_, h2, h3, h4, _⟩ := (hS.ts i hi).told e
    exact ⟨h2, h3, by rw [h4]; decide⟩
/-- A turn of both. -/
theorem sim_turn {code : List (List Ins)} {C : PB} {G : RW} (hS : Sim code C G) (hk : C.Ok) {i : Nat} (hi : i < C.ts.length) (hg : (C.t i).ph = 0 ∨ (C.t i).ph = 2) (ea : Option Addr) (ec n : Nat) :
    Sim code (C.more.act i) (({ ({ G.one code i with ea := ea, ec := ec } : RW) with steps := n } : RW).ends code) ∧ Ends (C.more.act i) (({ ({ G.one code i with ea := ea, ec := ec } : RW) with steps := n } : RW).ends code) ∧ (C.more.act i).steps = C.steps + 1 ∧ (C.more.act i).Ok ∧ ({ ({ G.one code i with ea := ea, ec := ec } : RW) with steps := n } : RW).ts.length = C.ts.length := by
  have h1 : Sim code C.more G := ⟨hS.cells, hS.has, hS.em, hS.len, hS.cl, hS.code, hS.ts⟩
  obtain ⟨k1, k2, k3, _⟩ := act_ok hk.more (i := i) hi hg
  have h2 := ((sim_act h1 hk.more (i := i) hi hg).where_ ea ec).steps (C.more.act i).steps n
  obtain ⟨h3, h4⟩ := sim_ends h2 k1
  exact ⟨h3, h4, k3, k1, h2.len.trans k2⟩
theorem CdAt.addr {w : World} {a : Option Addr} {len cap : Nat} {code : List (List Ins)} (h : CdAt w a len cap code) (hl : 0 < len) : ∃ b off, a = some ⟨b, off, none⟩ := by
  obtain ⟨b, off, e, _⟩ := h.here hl
  exact ⟨b, off, e⟩
theorem CdAt.rowAt {w : World} {b off len cap : Nat} {code : List (List Ins)} (h : CdAt w (some ⟨b, off, none⟩) len cap code) {i : Nat} (hi : i < len) : ∃ aj cj, w.cell? ⟨b, off + i, none⟩ = some (.slice aj (code.getD i []).length cj) := by
  obtain ⟨b', off', aj, cj, e, h1, _⟩ := h.lenAt hi
  simp only [Option.some.injEq, Addr.mk.injEq, and_true] at e
  obtain ⟨rfl, rfl⟩ := e
  exact ⟨aj, cj, h1⟩
theorem cd_ins {w : World} {b off len cap : Nat} {code : List (List Ins)} (h : CdAt w (some ⟨b, off, none⟩) len cap code) {i k : Nat} (hi : i < len) (hk : k < (code.getD i []).length) : ∃ ib io ic, w.cell? ⟨b, off + i, none⟩ = some (.slice (some ⟨ib, io, none⟩) (code.getD i []).length ic) ∧ w.cell? ⟨ib, io + k * 4, none⟩ = some (.int .i64 (insAt code i k).op) ∧ w.cell? ⟨ib, io + k * 4 + 1, none⟩ = some (.int .i64 (insAt code i k).a) ∧ w.cell? ⟨ib, io + k * 4 + 2, none⟩ = some (.int .i64 (insAt code i k).b) ∧ w.cell? ⟨ib, io + k * 4 + 3, none⟩ = some (.int .i64 (insAt code i k).c) := by
  obtain ⟨b', off', ib, io, ic, e, h1, h2, h3, h4, h5, _⟩ := h.insAt hi hk
  simp only [Option.some.injEq, Addr.mk.injEq, and_true] at e
  obtain ⟨rfl, rfl⟩ := e
  exact ⟨ib, io, ic, h1, h2, h3, h4, h5⟩
/-- How the document's own Run ends. -/
def DoEnd (w w' : World) (code : List (List Ins)) (cs ps : List Int) (e : Ending) : Prop :=
  (allOk code cs = false ∧ e = .returned (.tuple #[.agg #[.slice none 0 0, .slice none 0 0, .slice none 0 0, .int .i64 0], .int .i64 50]) ∧ Below w.heap.size w w') ∨
    (allOk code cs = true ∧ ∃ ac kc ea ec sa sc, e = .returned (.tuple #[.agg #[.slice ac 16 kc, .slice ea ((begins code cs).run ps).em.length ec, .slice sa ((begins code cs).run ps).ts.length sc, .int .i64 (((begins code cs).run ps).steps : Int)], .int .i64 0]) ∧
      IvAt w' ac 16 kc ((begins code cs).run ps).cells ∧ EmAt w' ea ((begins code cs).run ps).em.length ec ((begins code cs).run ps).em ∧ IvAt w' sa ((begins code cs).run ps).ts.length sc ((begins code cs).run ps).states ∧ Below w.heap.size w w')
/-- The block of the result, with nothing in it. -/
structure Res (w w' : World) : Prop where
  box : Box w' w.heap.size 27 #[.slice none 0 0, .slice none 0 0, .slice none 0 0, .int .i64 0]
  base : Below w.heap.size w w'
theorem Res.new (w : World) : Res w (w.alloc (.cells #[.slice none 0 0, .slice none 0 0, .slice none 0 0, .int .i64 0] 27)) := ⟨Box.new w _ _, (Below.refl _ _).alloc (Nat.le_refl _) _⟩
theorem Res.on {w w1 w' : World} (h : Res w w1) (hb : Below w1.heap.size w1 w') : Res w w' := ⟨h.box.kept (hb.block _ h.box.lt), h.base.trans (hb.mono h.base.size)⟩
theorem Res.lt {w w' : World} (h : Res w w') : w.heap.size < w'.heap.size := h.box.lt
theorem Res.cells {w w' : World} (h : Res w w') : w'.cell? ⟨w.heap.size, 0, none⟩ = some (.slice none 0 0) ∧ w'.cell? ⟨w.heap.size, 1, none⟩ = some (.slice none 0 0) ∧ w'.cell? ⟨w.heap.size, 2, none⟩ = some (.slice none 0 0) ∧ w'.cell? ⟨w.heap.size, 3, none⟩ = some (.int .i64 0) := ⟨h.box.cell 0, h.box.cell 1, h.box.cell 2, h.box.cell 3⟩
theorem Res.softs {w w' : World} (h : Res w w') : w'.frozen? ⟨w.heap.size, 0, none⟩ = false ∧ w'.frozen? ⟨w.heap.size, 1, none⟩ = false ∧ w'.frozen? ⟨w.heap.size, 2, none⟩ = false ∧ w'.frozen? ⟨w.heap.size, 3, none⟩ = false := ⟨h.box.soft 0, h.box.soft 1, h.box.soft 2, h.box.soft 3⟩
theorem Res.low {w w' : World} (h : Res w w') (v0 v1 v2 v3 : Value) : Below w.heap.size w ((((w'.setCell ⟨w.heap.size, 0, none⟩ v0).setCell ⟨w.heap.size, 1, none⟩ v1).setCell ⟨w.heap.size, 2, none⟩ v2).setCell ⟨w.heap.size, 3, none⟩ v3) :=
  (((h.base.setCell (Nat.le_refl _) _).setCell (Nat.le_refl _) _).setCell (Nat.le_refl _) _).setCell (Nat.le_refl _) _
theorem Res.no {w w' : World} {code : List (List Ins)} {cs ps : List Int} (h : Res w w') (hbad : allOk code cs = false) : DoEnd w ((((w'.setCell ⟨w.heap.size, 0, none⟩ (.slice none 0 0)).setCell ⟨w.heap.size, 1, none⟩ (.slice none 0 0)).setCell ⟨w.heap.size, 2, none⟩ (.slice none 0 0)).setCell ⟨w.heap.size, 3, none⟩ (.int .i64 0)) code cs ps (.returned (.tuple #[.agg #[.slice none 0 0, .slice none 0 0, .slice none 0 0, .int .i64 0], .int .i64 50])) := .inl ⟨hbad, rfl, h.low _ _ _ _⟩
/-- The result is put into its block. -/
theorem Res.yes {w w' : World} {code : List (List Ins)} {cs ps : List Int} (h : Res w w') (hok : allOk code cs = true) {B : PB} (hB : B = (begins code cs).run ps) (hk : B.Ok) {ac ea sa : Option Addr} {kc ec sc n m : Nat} {s : Int} (hn : n = B.em.length) (hm : m = B.ts.length) (hs : s = (B.steps : Int)) {b1 b2 b3 : Nat} (h1 : w'.ownsRow b1 3 1 (.slice ac 16 kc) 16 (cellsN B.cells)) (h2 : w'.ownsRow b2 3 1 (.slice sa m sc) m (cellsN B.states)) (h3 : w'.ownsRow b3 34 2 (.slice ea n ec) n (cellsE B.em)) :
    DoEnd w ((((w'.setCell ⟨w.heap.size, 0, none⟩ (.slice ac 16 kc)).setCell ⟨w.heap.size, 1, none⟩ (.slice ea n ec)).setCell ⟨w.heap.size, 2, none⟩ (.slice sa m sc)).setCell ⟨w.heap.size, 3, none⟩ (.int .i64 s)) code cs ps (.returned (.tuple #[.agg #[.slice ac 16 kc, .slice ea n ec, .slice sa m sc, .int .i64 s], .int .i64 0])) := by
  subst hn hm hs
  have hlow : ∀ b, b ≠ w.heap.size → ((((w'.setCell ⟨w.heap.size, 0, none⟩ (.slice ac 16 kc)).setCell ⟨w.heap.size, 1, none⟩ (.slice ea B.em.length ec)).setCell ⟨w.heap.size, 2, none⟩ (.slice sa B.ts.length sc)).setCell ⟨w.heap.size, 3, none⟩ (.int .i64 (B.steps : Int))).heap[b]? = w'.heap[b]? := fun b hb => by
    rw [Below.heap_setCell _ _ _ _ hb, Below.heap_setCell _ _ _ _ hb, Below.heap_setCell _ _ _ _ hb, Below.heap_setCell _ _ _ _ hb]
  have g1 := IvAt.row (row_same h1 fun b e => hlow b (tag_ne (row_tag h1 e) h.box.tag (by decide))) hk.cells
  have g2 := IvAt.row (row_same h2 fun b e => hlow b (tag_ne (row_tag h2 e) h.box.tag (by decide))) (by simp [PB.states])
  have g3 := EmAt.row (row_same h3 fun b e => hlow b (tag_ne (row_tag h3 e) h.box.tag (by decide))) rfl
  have g4 := h.low (.slice ac 16 kc) (.slice ea B.em.length ec) (.slice sa B.ts.length sc) (.int .i64 (B.steps : Int))
  subst hB
  exact .inr ⟨hok, ac, kc, ea, ec, sa, sc, rfl, g1, g3, g2, g4⟩
end Go.Proofs.Ytehkcgjiimfdjaa
