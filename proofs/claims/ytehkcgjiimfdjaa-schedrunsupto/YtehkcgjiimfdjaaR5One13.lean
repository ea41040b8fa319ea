/- The contract of the document's own one: a word that is told. -/
import Derived.Test.YtehkcgjiimfdjaaPbMem
import Derived.Deep.RegionHeld3
namespace Go.Proofs.Ytehkcgjiimfdjaa
open Go.RowKit
theorem Wd.emit {w0 V w6 : World} {p q : Nat} {cv : Value} {G : RW} (h : Wd w0 V p q cv G) {o : Obj} {g6 c6 i : Nat} {v : Int} (hr6 : w6.ownsRow w0.heap.size 34 2 (.slice (some ⟨g6, 0, none⟩) (G.em.length + 1) c6) (G.em.length + 1) (cellsE G.em ++ [.int .i64 (i : Int), .int .i64 v])) (hg6 : (V.drew.alloc o).grownBy w6 (Value.slice G.ea G.em.length G.ec).ownBlock) (hl6 : (Value.slice G.ea G.em.length G.ec).ownBlock = some g6 ∨ g6 = V.heap.size + 1) :
    Wd w0 (w6.setCell ⟨p, 34, none⟩ (.slice (some ⟨g6, 0, none⟩) (G.em.length + 1) c6)) p q cv { G with em := G.em ++ [(i, v)], ea := some ⟨g6, 0, none⟩, ec := c6 } ∧ Chg (fun k => k = p ∨ blkOf G.ea = some k) V (w6.setCell ⟨p, 34, none⟩ (.slice (some ⟨g6, 0, none⟩) (G.em.length + 1) c6)) ∧ (blkOf G.ea = some g6 ∨ g6 = V.heap.size + 1) := by
  rw [own_blk] at hg6 hl6
  have hpV := tag_lt h.tagP
  have hqV := tag_lt h.tagQ
  have hA : Below V.heap.size V (V.drew.alloc o) := ((Below.refl _ _).drew).alloc (Nat.le_refl _) _
  have kp : ∀ b, b < V.heap.size → blkOf G.ea ≠ some b → w6.heap[b]? = V.heap[b]? := fun b hb hne => by
    rw [hg6.block b (by simp; omega) (Ne.symm hne), hA.block b hb]
  have hp6 := kp p hpV (fun e => h.pNe e rfl)
  have hq6 := kp q hqV (fun e => h.qNe e rfl)
  have hgp : g6 ≠ p := by
    rcases hl6 with e | e
    · exact h.pNe e
    · omega
  have hgq : g6 ≠ q := by
    rcases hl6 with e | e
    · exact h.qNe e
    · omega
  have hb6 : Below w0.heap.size w0 w6 := (h.base.trans (hA.mono h.base.size)).grown hg6 (by have := h.base.size; simp; omega) (fun b e => (h.em.lt b (by rw [own_blk]; exact e)).1)
  refine ⟨⟨?_, ?_, ?_, h.hp, h.hq, hb6.setCell h.hp _, h.lc, h.lh, h.regs, h.many⟩, ?_, hl6⟩
  · refine Box.eq ((h.box.kept hp6).set 34 _) ?_
    have e : (wdL cv q G).set 34 (.slice (some ⟨g6, 0, none⟩) (G.em.length + 1) c6) = wdL cv q { G with em := G.em ++ [(i, v)], ea := some ⟨g6, 0, none⟩, ec := c6 } := by
      unfold wdL
      rw [List.set_cons_succ, List.set_cons_succ, List.set_append_right _ _ (by simp [h.lc]), List.set_append_right _ _ (by simp [h.lc, h.lh])]
      simp [h.lc, h.lh]
    rw [← e]
    simp
  · exact (h.row.kept hq6).other (Ne.symm h.ne) _ _
  · have e1 : (G.em ++ [(i, v)]).length = G.em.length + 1 := by simp
    show World.ownsRow _ _ _ _ (.slice _ (G.em ++ [(i, v)]).length _) _ (cellsE (G.em ++ [(i, v)]))
    rw [e1, cellsE_append]
    exact row_same hr6 fun b e => Below.heap_setCell _ _ _ _ (by cases e; exact hgp)
  · refine ⟨hg6.os.trans hA.os, hg6.tape.trans hA.tape, hg6.output.trans hA.output, by have := hg6.size; simp at this ⊢; omega, fun b hb hn => ?_⟩
    rw [Below.heap_setCell _ _ _ _ (fun e => hn (.inl e)), kp b hb (fun e => hn (.inr e))]
theorem In1.regAt13 {w0 V : World} {p q : Nat} {a : Option Addr} {len cap : Nat} {code : List (List Ins)} {G : RW} {i tb pl : Nat} {r0 r1 r2 r3 cd wt xo xa xb xc : Int} (h : In1 w0 V p q a len cap code G i tb pl r0 r1 r2 r3 cd wt xo xa xb xc) {b : Nat} (hb : b < 4) : V.cell? ⟨tb, 1 + b, none⟩ = some (.int .i64 ([r0, r1, r2, r3].getD b 0)) := by
  rw [h.ht.cell]
  rcases (by omega : b = 0 ∨ b = 1 ∨ b = 2 ∨ b = 3) with rfl | rfl | rfl | rfl <;> rfl
set_option linter.unusedSimpArgs false in
set_option maxRecDepth 100000 in
set_option maxHeartbeats 4000000 in
theorem one_13 {w0 w : World} {p q : Nat} {a : Option Addr} {len cap : Nat} {code : List (List Ins)} {G : RW} {i : Nat} (D : Go1 w0 w p q a len cap code G i) (hw : (G.t i).wt < 0) (hop : (insAt code i (G.t i).pl).op = 13) (hem : G.em.length < 1099511627776) :
    Calls Try.prog 21 #[at_ p, .int .i64 (i : Int)] w fun e w' => e = .returned (.tuple #[]) ∧ OneAt w0 w' p q (.slice a len cap) (G.one code i) := by
  obtain ⟨b0, b1, _, _, _, _⟩ := D.wd.cell
  obtain ⟨t0, t1, t2, t3, t4, t5, t6, t7, t8⟩ := D.wd.tcell D.hi
  have hmany := D.wd.many
  have hplt := tag_lt D.wd.tagP
  have hqlt := tag_lt D.wd.tagQ
  have hi := D.hi
  have hpq := D.wd.ne
  obtain ⟨pl, r0, r1, r2, r3, cd, wt, xo, xa, xb, xc, cb, co, ib, io, ic, cl, rfl, hT, hX, hok, hwt, hpl, hp64, hcl, k0, j0, j1, j2, j3, hic, hicm, hlen, hlc, hcm, hcb, hib, HIN⟩ := D.reads
  have HT : Hid (G.t i = ⟨pl, [r0, r1, r2, r3], false, false, cd, wt⟩) := hT
  have hreg := insReg hok
  simp only at hreg
  rw [hT] at t0 t1 t2 t3 t4 t5 t6 t7 t8
  have t1' : w.cell? ⟨q, i * 9 + 1, none⟩ = some (.int .i64 r0) := t1
  have t2' : w.cell? ⟨q, i * 9 + 2, none⟩ = some (.int .i64 r1) := t2
  have t3' : w.cell? ⟨q, i * 9 + 3, none⟩ = some (.int .i64 r2) := t3
  have t4' : w.cell? ⟨q, i * 9 + 4, none⟩ = some (.int .i64 r3) := t4
  simp only at t0 t5 t6 t7 t8
  have hx1 : (0 : Int) ≤ (i : Int) := by omega
  have hx2 : (i : Int) < (G.ts.length : Int) := by omega
  have hy2 : (i : Int) < (len : Int) := by omega
  have hy3 : (0 : Int) ≤ (pl : Int) := by omega
  have hy4 : (pl : Int) < (cl : Int) := by omega
  rw [hT] at hw hop
  simp only at hw hop
  rw [hX] at hop
  simp only at hop
  subst hop
  obtain ⟨ha1, ha2⟩ := hreg.2.2.2.1 (.inr (.inr rfl))
  obtain ⟨A, rfl⟩ : ∃ N : Nat, xa = (N : Int) := ⟨xa.toNat, by omega⟩
  have HX : Hid (insAt code i pl = ⟨13, (A : Int), xb, xc⟩) := hX
  clear hX hreg hT
  have I0 := HIN w.heap.size rfl
  clear HIN t1 t2 t3 t4 D hok hcl hlen
  go_enter Try.func21, Try.ntmps21
  go_wp2
  go_region
  generalize hV : ((w.alloc (.cells #[.int .i64 (pl : Int), .int .i64 r0, .int .i64 r1, .int .i64 r2, .int .i64 r3, .bool false, .bool false, .int .i64 cd, .int .i64 wt] 54)).alloc (.cells #[.int .i64 13, .int .i64 (A : Int), .int .i64 xb, .int .i64 xc] 37)).drew = V at I0 ⊢
  generalize w.heap.size = tb at I0 ⊢
  have HI : Hid (In1 w0 V p q (some ⟨cb, co, none⟩) len cap code G i tb pl r0 r1 r2 r3 cd wt 13 (A : Int) xb xc) := I0
  obtain ⟨c0, c1, c2, c3, c4, c5, c6, c7, c8⟩ := I0.cells
  obtain ⟨s0, s1, s2, s3, s4, s5, s6, s7, s8⟩ := I0.softs
  obtain ⟨z0, z1, z2, z3⟩ := I0.xcells
  obtain ⟨d0, d1, d2, d3, _, _⟩ := I0.wd.cell
  obtain ⟨v0, v1, v2, v3, v4, v5, v6, v7, v8⟩ := I0.wd.softQ i
  obtain ⟨q0, q1, q2, q3, q4, q5, q6, q7, q8⟩ := I0.wd.tcell hi
  have hnp := I0.np
  have hnq := I0.nq
  have hn1 : p ≠ tb := by omega
  have hn2 : q ≠ tb := by omega
  have hn3 : p ≠ tb + 1 := by omega
  have hn4 : q ≠ tb + 1 := by omega
  clear hV t0 t1' t2' t3' t4' t5 t6 t7 t8 k0 j0 j1 j2 j3 b0 b1 hnp hnq hplt hqlt hcb hib
  have e1 := HI.out.regAt13 (b := A) (by omega)
  have ha3 : (A : Int) < 4 := by omega
  generalize hcv : [r0, r1, r2, r3].getD A 0 = RA at e1
  have d34 := HI.out.wd.cell.2.2.2.2.1
  have s34 := HI.out.wd.box.soft 34
  have hpV : p < V.heap.size := tag_lt HI.out.wd.tagP
  have htV : tb < V.heap.size := HI.out.ht.lt
  have hxV : tb + 1 < V.heap.size := HI.out.hx.lt
  obtain ⟨i0, hi0, hz0, hz1, hz2⟩ := info_parts infoEmit
  have HS0 : Hid (V.drew.cell? ⟨tb + 1, 1, none⟩ = some (.int .i64 (A : Int)) ∧ V.drew.cell? ⟨tb, 1 + A, none⟩ = some (.int .i64 RA)) := ⟨z1, e1⟩
  have HB1 : Hid (∀ o : Obj, Below V.heap.size V (V.drew.alloc o)) := fun o => ((Below.refl _ _).drew).alloc (Nat.le_refl _) _
  have HS1 : Hid ((V.drew.alloc (.cells #[.int .i64 (i : Int), .int .i64 RA] 34)).cell? ⟨tb + 1, 1, none⟩ = some (.int .i64 (A : Int)) ∧ (V.drew.alloc (.cells #[.int .i64 (i : Int), .int .i64 RA] 34)).cell? ⟨tb, 1 + A, none⟩ = some (.int .i64 RA)) := ⟨((HB1.out _).cell hxV).trans z1, ((HB1.out _).cell htV).trans e1⟩
  have HROW : Hid ((V.drew.alloc (.cells #[.int .i64 (i : Int), .int .i64 RA] 34)).ownsRow w0.heap.size 34 2 (.slice G.ea G.em.length G.ec) G.em.length (cellsE G.em)) := row_same HI.out.wd.em fun b e => (HB1.out _).block b (tag_lt (row_tag HI.out.wd.em e))
  have HNEW : Hid (∀ j u, ([.int .i64 (i : Int), .int .i64 RA] : List Value)[j]? = some u → (V.drew.alloc (.cells #[.int .i64 (i : Int), .int .i64 RA] 34)).cell? ((⟨V.heap.size, 0, none⟩ : Addr).add j) = some u) := World.news_of_block (heap_alloc_new V.drew _)
  have HONE2 : Hid (∀ y ∈ ([.int .i64 (i : Int), .int .i64 RA] : List Value), y.oneCell' = true) := fun y hy => by
    simp at hy
    rcases hy with rfl | rfl <;> rfl
  have HKEEP : Hid (∀ w6, (V.drew.alloc (.cells #[.int .i64 (i : Int), .int .i64 RA] 34)).grownBy w6 (Value.slice G.ea G.em.length G.ec).ownBlock → w6.cell? ⟨tb + 1, 1, none⟩ = some (.int .i64 (A : Int)) ∧ w6.cell? ⟨tb, 1 + A, none⟩ = some (.int .i64 RA) ∧ w6.cell? ⟨p, 34, none⟩ = some (.slice G.ea G.em.length G.ec) ∧ w6.frozen? ⟨p, 34, none⟩ = false) := by
    intro w6 hg
    rw [own_blk] at hg
    have kp : ∀ b, b < V.heap.size → blkOf G.ea ≠ some b → w6.heap[b]? = V.heap[b]? := fun b hb hne => by
      rw [hg.block b (by simp; omega) (Ne.symm hne), (HB1.out _).block b hb]
    have h1 := kp (tb + 1) hxV (fun e => by have := HI.out.ne _ e; omega)
    have h2 := kp tb htV (fun e => by have := HI.out.ne _ e; omega)
    have h3 := kp p hpV (fun e => HI.out.wd.pNe e rfl)
    refine ⟨(World.cell?_of_block h1).trans z1, (World.cell?_of_block h2).trans e1, (World.cell?_of_block h3).trans d34, ?_⟩
    rw [← s34]
    unfold World.frozen?
    rw [show w6.heap[p]? = V.heap[p]? from h3]
  have HONE : Hid (G.one code i = ({ G with em := G.em ++ [(i, RA)] } : RW).setT i (G.t i).next) := by
    unfold Hid RW.one
    rw [HT.out]
    simp only
    rw [HX.out, if_neg (by omega)]
    simp only
    rw [if_neg (by decide), if_neg (by decide), if_neg (by decide), if_neg (by decide), if_neg (by decide), if_neg (by decide), if_neg (by decide), if_neg (by decide), if_neg (by decide), if_neg (by decide), if_neg (by decide), if_neg (by decide), if_pos trivial]
    rw [Int.toNat_natCast, hcv]
  clear d2 d3
  go_wp2
  refine wp_region_held_drew (S := (fun w' => w'.cell? ⟨tb + 1, 1, none⟩ = some (.int .i64 (A : Int)) ∧ w'.cell? ⟨tb, 1 + A, none⟩ = some (.int .i64 RA))) (by kernel_rfl) HS0.out (fun hHeld => ?_)
  refine wpAnyH_take (i := 0) (v := ?_) rfl (by kernel_rfl) (by kernel_rfl) (by kernel_rfl) (fun _ _ _ h => h) (Or.inl ⟨by rfl, ?_⟩) hHeld ?_
  rotate_left
  · intro w hSw
    try dsimp only at hSw
    go_simp
    try with_reducible rfl
  try simp only [Act.put, List.setIfInBounds_toArray, List.set_cons_zero, List.set_cons_succ]
  refine wpAnyH_take (i := 1) (v := ?_) rfl (by kernel_rfl) (by kernel_rfl) (by kernel_rfl) (fun _ _ _ h => h) (Or.inl ⟨by rfl, ?_⟩) hHeld ?_
  rotate_left
  · intro w hSw
    try dsimp only at hSw
    go_simp
    try with_reducible rfl
  try simp only [Act.put, List.setIfInBounds_toArray, List.set_cons_zero, List.set_cons_succ]
  refine wpAnyH_take (i := 2) (v := ?_) rfl (by kernel_rfl) (by kernel_rfl) (by kernel_rfl) (fun _ _ _ h => h) (Or.inl ⟨by rfl, ?_⟩) hHeld ?_
  rotate_left
  · intro w hSw
    try dsimp only at hSw
    go_simp
    try with_reducible rfl
  try simp only [Act.put, List.setIfInBounds_toArray, List.set_cons_zero, List.set_cons_succ]
  refine wpAnyH_take (i := 3) (v := ?_) rfl (by kernel_rfl) (by kernel_rfl) (by kernel_rfl) (fun _ _ _ h => h) (Or.inl ⟨by rfl, ?_⟩) hHeld ?_
  rotate_left
  · intro w hSw
    try dsimp only at hSw
    go_simp
    try with_reducible rfl
  try simp only [Act.put, List.setIfInBounds_toArray, List.set_cons_zero, List.set_cons_succ]
  refine wpAnyH_take (i := 5) (v := ?_) rfl (by kernel_rfl) (by kernel_rfl) (by kernel_rfl) (fun _ _ _ h => h) (Or.inl ⟨by rfl, ?_⟩) hHeld ?_
  rotate_left
  · intro w hSw
    try dsimp only at hSw
    go_simp
    try with_reducible rfl
  try simp only [Act.put, List.setIfInBounds_toArray, List.set_cons_zero, List.set_cons_succ]
  refine wpAnyH_take (i := 6) (v := ?_) rfl (by kernel_rfl) (by kernel_rfl) (by kernel_rfl) (fun _ _ _ h => h) (Or.inl ⟨by rfl, ?_⟩) hHeld ?_
  rotate_left
  · intro w hSw
    try dsimp only at hSw
    go_simp
    try with_reducible rfl
  try simp only [Act.put, List.setIfInBounds_toArray, List.set_cons_zero, List.set_cons_succ]
  refine wpAnyH_take (i := 7) (v := ?_) rfl (by kernel_rfl) (by kernel_rfl) (by kernel_rfl) (fun _ _ _ h => h) (Or.inl ⟨by rfl, ?_⟩) hHeld ?_
  rotate_left
  · intro w hSw
    try dsimp only at hSw
    go_simp
    try with_reducible rfl
  try simp only [Act.put, List.setIfInBounds_toArray, List.set_cons_zero, List.set_cons_succ]
  refine wpAnyH_take (i := 8) (v := ?_) rfl (by kernel_rfl) (by kernel_rfl) (by kernel_rfl) (fun _ _ _ h => h) (Or.inl ⟨by rfl, ?_⟩) hHeld ?_
  rotate_left
  · intro w hSw
    try dsimp only at hSw
    go_simp
    try with_reducible rfl
  try simp only [Act.put, List.setIfInBounds_toArray, List.set_cons_zero, List.set_cons_succ]
  refine wpAnyH_take (i := 9) (v := ?_) rfl (by kernel_rfl) (by kernel_rfl) (by kernel_rfl) (fun _ _ _ h => h) (Or.inl ⟨by rfl, ?_⟩) hHeld ?_
  rotate_left
  · intro w hSw
    try dsimp only at hSw
    go_simp
    try with_reducible rfl
  try simp only [Act.put, List.setIfInBounds_toArray, List.set_cons_zero, List.set_cons_succ]
  refine wpAnyH_take (i := 10) (v := ?_) rfl (by kernel_rfl) (by kernel_rfl) (by kernel_rfl) (fun _ _ _ h => h) (Or.inl ⟨by rfl, ?_⟩) hHeld ?_
  rotate_left
  · intro w hSw
    try dsimp only at hSw
    go_simp
    try with_reducible rfl
  try simp only [Act.put, List.setIfInBounds_toArray, List.set_cons_zero, List.set_cons_succ]
  refine wpAnyH_take (i := 11) (v := ?_) rfl (by kernel_rfl) (by kernel_rfl) (by kernel_rfl) (fun _ _ _ h => h) (Or.inl ⟨by rfl, ?_⟩) hHeld ?_
  rotate_left
  · intro w hSw
    try dsimp only at hSw
    go_simp
    try with_reducible rfl
  try simp only [Act.put, List.setIfInBounds_toArray, List.set_cons_zero, List.set_cons_succ]
  refine wpAnyH_ready (rs := [4, 12]) (by kernel_rfl) (by simp) ?_
  refine AllReadyH.cons rfl (fun K hK => ?_) ?_
  · skip
    go_simp
    refine hK.out _ _ ?_ (fun hHeld => ?_)
    · exact hHeld
    clear hK K
    try simp only [Act.put, List.setIfInBounds_toArray, List.set_cons_zero, List.set_cons_succ]
    refine wpAnyH_ready (rs := [12]) (by kernel_rfl) (by simp) ?_
    refine AllReadyH.cons rfl (fun K hK => ?_) ?_
    · skip
      go_simp
      refine hK.out _ _ ?_ (fun hHeld => ?_)
      · exact HS1.out
      clear hK K
      try simp only [Act.put, List.setIfInBounds_toArray, List.set_cons_zero, List.set_cons_succ]
      refine wpAnyH_ready (rs := [13]) (by kernel_rfl) (by simp) ?_
      refine AllReadyH.cons rfl (fun K hK => ?_) ?_
      · skip
        refine step_append_lies _ rfl (.tmp 206) (.tmp 214) 25 rfl w0.heap.size 34 i0 _ 2 16 Try.underlying25 hi0 hz0 hz1 hz2 rfl (by decide) _ G.em.length (cellsE G.em) (by simp [Act.eval]) HROW.out ⟨V.heap.size, 0, none⟩ 1 1 [.int .i64 (i : Int), .int .i64 RA] (by simp [Act.eval]) rfl HNEW.out HONE2.out (by omega) (by unfold maxLen; omega) (by omega) (by have := HI.out.wd.base.size; simp; omega) (V.heap.size + 1) (by simp) ?_
        intro g6 c6 w6 hr6 hg6 hl6 hlt6
        have HFIN : Hid (Wd w0 (w6.setCell ⟨p, 34, none⟩ (.slice (some ⟨g6, 0, none⟩) (G.em.length + 1) c6)) p q (.slice (some ⟨cb, co, none⟩) len cap) { G with em := G.em ++ [(i, RA)], ea := some ⟨g6, 0, none⟩, ec := c6 } ∧ Chg (fun k => k = p ∨ blkOf G.ea = some k) V (w6.setCell ⟨p, 34, none⟩ (.slice (some ⟨g6, 0, none⟩) (G.em.length + 1) c6)) ∧ (blkOf G.ea = some g6 ∨ g6 = V.heap.size + 1)) := HI.out.wd.emit hr6 hg6 hl6
        obtain ⟨x1, x2, u0, u1⟩ := HKEEP.out w6 hg6
        have m1 := (World.cell?_of_block (a := ⟨tb + 1, 1, none⟩) (Below.heap_setCell w6 ⟨p, 34, none⟩ (.slice (some ⟨g6, 0, none⟩) (G.em.length + 1) c6) (tb + 1) (Ne.symm hn3))).trans x1
        have m2 := (World.cell?_of_block (a := ⟨tb, 1 + A, none⟩) (Below.heap_setCell w6 ⟨p, 34, none⟩ (.slice (some ⟨g6, 0, none⟩) (G.em.length + 1) c6) tb (Ne.symm hn1))).trans x2
        clear hr6 hg6 hl6 hlt6
        refine hK.out _ _ ?_ (fun hHeld => ?_)
        · exact ⟨x1, x2⟩
        clear hK K
        try simp only [Act.put, List.setIfInBounds_toArray, List.set_cons_zero, List.set_cons_succ]
        refine wpAnyH_take (i := 14) (v := ?_) rfl (by kernel_rfl) (by kernel_rfl) (by kernel_rfl) (fun _ _ _ h => h) (Or.inl ⟨by rfl, ?_⟩) hHeld ?_
        rotate_left
        · intro w hSw
          try dsimp only at hSw
          go_simp
          try with_reducible rfl
        try simp only [Act.put, List.setIfInBounds_toArray, List.set_cons_zero, List.set_cons_succ]
        refine wpAnyH_take (i := 15) (v := ?_) rfl (by kernel_rfl) (by kernel_rfl) (by kernel_rfl) (fun _ _ _ h => h) (Or.inl ⟨by rfl, ?_⟩) hHeld ?_
        rotate_left
        · intro w hSw
          try dsimp only at hSw
          go_simp
          try with_reducible rfl
        try simp only [Act.put, List.setIfInBounds_toArray, List.set_cons_zero, List.set_cons_succ]
        refine wpAnyH_ready (rs := [16]) (by kernel_rfl) (by simp) ?_
        refine AllReadyH.cons rfl (fun K hK => ?_) ?_
        · skip
          go_simp
          refine hK.out _ _ ?_ (fun hHeld => ?_)
          · exact ⟨m1, m2⟩
          clear hK K
          try simp only [Act.put, List.setIfInBounds_toArray, List.set_cons_zero, List.set_cons_succ]
          refine wpAnyH_done (by kernel_rfl) ?_ _
          obtain ⟨hW2, hC2, hl2⟩ := HFIN.out
          clear HFIN x1 x2 u0 u1 m1 m2 hHeld
          generalize w6.setCell ⟨p, 34, none⟩ (.slice (some ⟨g6, 0, none⟩) (G.em.length + 1) c6) = W2 at hW2 hC2 ⊢
          have nE : ∀ b, tb ≤ b → blkOf G.ea ≠ some b := fun b hb e => by have := HI.out.ne b e; omega
          have ht2 := HI.out.ht.kept (hC2.block tb htV (fun e => e.elim (Ne.symm hn1) (nE tb (Nat.le_refl _))))
          have hgt : g6 ≠ tb := by
            rcases hl2 with e | e
            · intro e2
              exact nE tb (Nat.le_refl _) (by rw [← e2]; exact e)
            · omega
          have HW2 : Hid (Wd w0 W2 p q (.slice (some ⟨cb, co, none⟩) len cap) { G with em := G.em ++ [(i, RA)], ea := some ⟨g6, 0, none⟩, ec := c6 }) := hW2
          have a0 := ht2.cell 0
          have a1 := ht2.cell 1
          have a2 := ht2.cell 2
          have a3 := ht2.cell 3
          have a4 := ht2.cell 4
          have a5 := ht2.cell 5
          have a6 := ht2.cell 6
          have a7 := ht2.cell 7
          have a8 := ht2.cell 8
          simp at a0 a1 a2 a3 a4 a5 a6 a7 a8
          have b0 := ht2.soft 0
          have dd : W2.cell? ⟨p, 1, none⟩ = some (.slice (some ⟨q, 0, none⟩) G.ts.length G.ts.length) := hW2.cell.2.1
          obtain ⟨v0, v1, v2, v3, v4, v5, v6, v7, v8⟩ := hW2.softQ i
          obtain ⟨q0, q1, q2, q3, q4, q5, q6, q7, q8⟩ := hW2.tcell hi
          clear hW2 hC2 ht2 hl2 nE
          go_wp2
          go_region
          go_wp2
          go_returns
          rw [HONE.out, HT.out]
          exact ⟨rfl, some ⟨g6, 0, none⟩, c6, ((HW2.out.other (Ne.symm hn1) (Ne.symm hn2) (fun e => hgt (Option.some.inj e)) HI.out.nb _ _).put9 hi (by rfl) (by simp [RT.cells, RT.next])).drew⟩
        exact AllReadyH.nil
      exact AllReadyH.nil
    exact AllReadyH.nil
  refine AllReadyH.cons rfl (fun K hK => ?_) ?_
  · skip
    go_simp
    refine hK.out _ _ ?_ (fun hHeld => ?_)
    · exact HS1.out
    clear hK K
    try simp only [Act.put, List.setIfInBounds_toArray, List.set_cons_zero, List.set_cons_succ]
    refine wpAnyH_ready (rs := [4]) (by kernel_rfl) (by simp) ?_
    refine AllReadyH.cons rfl (fun K hK => ?_) ?_
    · skip
      go_simp
      refine hK.out _ _ ?_ (fun hHeld => ?_)
      · exact hHeld
      clear hK K
      try simp only [Act.put, List.setIfInBounds_toArray, List.set_cons_zero, List.set_cons_succ]
      refine wpAnyH_ready (rs := [13]) (by kernel_rfl) (by simp) ?_
      refine AllReadyH.cons rfl (fun K hK => ?_) ?_
      · skip
        refine step_append_lies _ rfl (.tmp 206) (.tmp 214) 25 rfl w0.heap.size 34 i0 _ 2 16 Try.underlying25 hi0 hz0 hz1 hz2 rfl (by decide) _ G.em.length (cellsE G.em) (by simp [Act.eval]) HROW.out ⟨V.heap.size, 0, none⟩ 1 1 [.int .i64 (i : Int), .int .i64 RA] (by simp [Act.eval]) rfl HNEW.out HONE2.out (by omega) (by unfold maxLen; omega) (by omega) (by have := HI.out.wd.base.size; simp; omega) (V.heap.size + 1) (by simp) ?_
        intro g6 c6 w6 hr6 hg6 hl6 hlt6
        have HFIN : Hid (Wd w0 (w6.setCell ⟨p, 34, none⟩ (.slice (some ⟨g6, 0, none⟩) (G.em.length + 1) c6)) p q (.slice (some ⟨cb, co, none⟩) len cap) { G with em := G.em ++ [(i, RA)], ea := some ⟨g6, 0, none⟩, ec := c6 } ∧ Chg (fun k => k = p ∨ blkOf G.ea = some k) V (w6.setCell ⟨p, 34, none⟩ (.slice (some ⟨g6, 0, none⟩) (G.em.length + 1) c6)) ∧ (blkOf G.ea = some g6 ∨ g6 = V.heap.size + 1)) := HI.out.wd.emit hr6 hg6 hl6
        obtain ⟨x1, x2, u0, u1⟩ := HKEEP.out w6 hg6
        have m1 := (World.cell?_of_block (a := ⟨tb + 1, 1, none⟩) (Below.heap_setCell w6 ⟨p, 34, none⟩ (.slice (some ⟨g6, 0, none⟩) (G.em.length + 1) c6) (tb + 1) (Ne.symm hn3))).trans x1
        have m2 := (World.cell?_of_block (a := ⟨tb, 1 + A, none⟩) (Below.heap_setCell w6 ⟨p, 34, none⟩ (.slice (some ⟨g6, 0, none⟩) (G.em.length + 1) c6) tb (Ne.symm hn1))).trans x2
        clear hr6 hg6 hl6 hlt6
        refine hK.out _ _ ?_ (fun hHeld => ?_)
        · exact ⟨x1, x2⟩
        clear hK K
        try simp only [Act.put, List.setIfInBounds_toArray, List.set_cons_zero, List.set_cons_succ]
        refine wpAnyH_take (i := 14) (v := ?_) rfl (by kernel_rfl) (by kernel_rfl) (by kernel_rfl) (fun _ _ _ h => h) (Or.inl ⟨by rfl, ?_⟩) hHeld ?_
        rotate_left
        · intro w hSw
          try dsimp only at hSw
          go_simp
          try with_reducible rfl
        try simp only [Act.put, List.setIfInBounds_toArray, List.set_cons_zero, List.set_cons_succ]
        refine wpAnyH_take (i := 15) (v := ?_) rfl (by kernel_rfl) (by kernel_rfl) (by kernel_rfl) (fun _ _ _ h => h) (Or.inl ⟨by rfl, ?_⟩) hHeld ?_
        rotate_left
        · intro w hSw
          try dsimp only at hSw
          go_simp
          try with_reducible rfl
        try simp only [Act.put, List.setIfInBounds_toArray, List.set_cons_zero, List.set_cons_succ]
        refine wpAnyH_ready (rs := [16]) (by kernel_rfl) (by simp) ?_
        refine AllReadyH.cons rfl (fun K hK => ?_) ?_
        · skip
          go_simp
          refine hK.out _ _ ?_ (fun hHeld => ?_)
          · exact ⟨m1, m2⟩
          clear hK K
          try simp only [Act.put, List.setIfInBounds_toArray, List.set_cons_zero, List.set_cons_succ]
          refine wpAnyH_done (by kernel_rfl) ?_ _
          obtain ⟨hW2, hC2, hl2⟩ := HFIN.out
          clear HFIN x1 x2 u0 u1 m1 m2 hHeld
          generalize w6.setCell ⟨p, 34, none⟩ (.slice (some ⟨g6, 0, none⟩) (G.em.length + 1) c6) = W2 at hW2 hC2 ⊢
          have nE : ∀ b, tb ≤ b → blkOf G.ea ≠ some b := fun b hb e => by have := HI.out.ne b e; omega
          have ht2 := HI.out.ht.kept (hC2.block tb htV (fun e => e.elim (Ne.symm hn1) (nE tb (Nat.le_refl _))))
          have hgt : g6 ≠ tb := by
            rcases hl2 with e | e
            · intro e2
              exact nE tb (Nat.le_refl _) (by rw [← e2]; exact e)
            · omega
          have HW2 : Hid (Wd w0 W2 p q (.slice (some ⟨cb, co, none⟩) len cap) { G with em := G.em ++ [(i, RA)], ea := some ⟨g6, 0, none⟩, ec := c6 }) := hW2
          have a0 := ht2.cell 0
          have a1 := ht2.cell 1
          have a2 := ht2.cell 2
          have a3 := ht2.cell 3
          have a4 := ht2.cell 4
          have a5 := ht2.cell 5
          have a6 := ht2.cell 6
          have a7 := ht2.cell 7
          have a8 := ht2.cell 8
          simp at a0 a1 a2 a3 a4 a5 a6 a7 a8
          have b0 := ht2.soft 0
          have dd : W2.cell? ⟨p, 1, none⟩ = some (.slice (some ⟨q, 0, none⟩) G.ts.length G.ts.length) := hW2.cell.2.1
          obtain ⟨v0, v1, v2, v3, v4, v5, v6, v7, v8⟩ := hW2.softQ i
          obtain ⟨q0, q1, q2, q3, q4, q5, q6, q7, q8⟩ := hW2.tcell hi
          clear hW2 hC2 ht2 hl2 nE
          go_wp2
          go_region
          go_wp2
          go_returns
          rw [HONE.out, HT.out]
          exact ⟨rfl, some ⟨g6, 0, none⟩, c6, ((HW2.out.other (Ne.symm hn1) (Ne.symm hn2) (fun e => hgt (Option.some.inj e)) HI.out.nb _ _).put9 hi (by rfl) (by simp [RT.cells, RT.next])).drew⟩
        exact AllReadyH.nil
      exact AllReadyH.nil
    exact AllReadyH.nil
  exact AllReadyH.nil
end Go.Proofs.Ytehkcgjiimfdjaa
