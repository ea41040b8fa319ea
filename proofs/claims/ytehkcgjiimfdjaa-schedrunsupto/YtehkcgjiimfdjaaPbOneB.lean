/- The contract of the document's own one: a lock. -/
import Derived.Test.YtehkcgjiimfdjaaPbMem
namespace Go.Proofs.Ytehkcgjiimfdjaa
open Go.RowKit
theorem In1.regAt8 {w0 V : World} {p q : Nat} {a : Option Addr} {len cap : Nat} {code : List (List Ins)} {G : RW} {i tb pl : Nat} {r0 r1 r2 r3 cd wt xo xa xb xc : Int} (h : In1 w0 V p q a len cap code G i tb pl r0 r1 r2 r3 cd wt xo xa xb xc) {b : Nat} (hb : b < 4) : V.cell? ⟨tb, 1 + b, none⟩ = some (.int .i64 ([r0, r1, r2, r3].getD b 0)) := by
  rw [h.ht.cell]
  rcases (by omega : b = 0 ∨ b = 1 ∨ b = 2 ∨ b = 3) with rfl | rfl | rfl | rfl <;> rfl
set_option maxRecDepth 100000 in
set_option maxHeartbeats 1000000 in
theorem one_8 {w0 w : World} {p q : Nat} {a : Option Addr} {len cap : Nat} {code : List (List Ins)} {G : RW} {i : Nat} (D : Go1 w0 w p q a len cap code G i) (hw : (G.t i).wt < 0) (hop : (insAt code i (G.t i).pl).op = 8) :
    Calls Try.prog 21 #[at_ p, .int .i64 (i : Int)] w fun e w' => e = .returned (.tuple #[]) ∧ OneAt w0 w' p q (.slice a len cap) (G.one code i) := by
  obtain ⟨b0, b1, _, _, _, _⟩ := D.wd.cell
  obtain ⟨t0, t1, t2, t3, t4, t5, t6, t7, t8⟩ := D.wd.tcell D.hi
  have hmany := D.wd.many
  have hplt := tag_lt D.wd.tagP
  have hqlt := tag_lt D.wd.tagQ
  have hi := D.hi
  have hpq := D.wd.ne
  obtain ⟨pl, r0, r1, r2, r3, cd, wt, xo, xa, xb, xc, cb, co, ib, io, ic, cl, rfl, hT, hX, hok, hwt, hpl, hp64, hcl, k0, j0, j1, j2, j3, hic, hicm, hlen, hlc, hcm, hcb, hib, HIN⟩ := D.reads
  have HT : Hid (G.t i = ⟨pl, [r0, r1, r2, r3], false, false, cd, wt⟩) := hT
  have hreg := insReg hok
  simp only at hreg
  rw [hT] at t0 t1 t2 t3 t4 t5 t6 t7 t8
  have t1' : w.cell? ⟨q, i * 9 + 1, none⟩ = some (.int .i64 r0) := t1
  have t2' : w.cell? ⟨q, i * 9 + 2, none⟩ = some (.int .i64 r1) := t2
  have t3' : w.cell? ⟨q, i * 9 + 3, none⟩ = some (.int .i64 r2) := t3
  have t4' : w.cell? ⟨q, i * 9 + 4, none⟩ = some (.int .i64 r3) := t4
  simp only at t0 t5 t6 t7 t8
  have hx1 : (0 : Int) ≤ (i : Int) := by omega
  have hx2 : (i : Int) < (G.ts.length : Int) := by omega
  have hy2 : (i : Int) < (len : Int) := by omega
  have hy3 : (0 : Int) ≤ (pl : Int) := by omega
  have hy4 : (pl : Int) < (cl : Int) := by omega
  rw [hT] at hw hop
  simp only at hw hop
  rw [hX] at hop
  simp only at hop
  subst hop
  obtain ⟨ha1, ha2⟩ := hreg.2.2.2.2.2.2.1 (.inl rfl)
  obtain ⟨A, rfl⟩ : ∃ N : Nat, xa = (N : Int) := ⟨xa.toNat, by omega⟩
  have HX : Hid (insAt code i pl = ⟨8, (A : Int), xb, xc⟩) := hX
  clear hX hreg hT
  have I0 := HIN w.heap.size rfl
  clear HIN t1 t2 t3 t4 D hok hcl hlen
  go_enter Try.func21, Try.ntmps21
  go_wp2
  go_region
  generalize hV : ((w.alloc (.cells #[.int .i64 (pl : Int), .int .i64 r0, .int .i64 r1, .int .i64 r2, .int .i64 r3, .bool false, .bool false, .int .i64 cd, .int .i64 wt] 54)).alloc (.cells #[.int .i64 8, .int .i64 (A : Int), .int .i64 xb, .int .i64 xc] 37)).drew = V at I0 ⊢
  generalize w.heap.size = tb at I0 ⊢
  have HI : Hid (In1 w0 V p q (some ⟨cb, co, none⟩) len cap code G i tb pl r0 r1 r2 r3 cd wt 8 (A : Int) xb xc) := I0
  obtain ⟨c0, c1, c2, c3, c4, c5, c6, c7, c8⟩ := I0.cells
  obtain ⟨s0, s1, s2, s3, s4, s5, s6, s7, s8⟩ := I0.softs
  obtain ⟨z0, z1, z2, z3⟩ := I0.xcells
  obtain ⟨d0, d1, d2, d3, _, _⟩ := I0.wd.cell
  obtain ⟨v0, v1, v2, v3, v4, v5, v6, v7, v8⟩ := I0.wd.softQ i
  obtain ⟨q0, q1, q2, q3, q4, q5, q6, q7, q8⟩ := I0.wd.tcell hi
  have hnp := I0.np
  have hnq := I0.nq
  have hn1 : p ≠ tb := by omega
  have hn2 : q ≠ tb := by omega
  have hn3 : p ≠ tb + 1 := by omega
  have hn4 : q ≠ tb + 1 := by omega
  clear hV t0 t1' t2' t3' t4' t5 t6 t7 t8 k0 j0 j1 j2 j3 b0 b1 hnp hnq hplt hqlt hcb hib
  have ha3 : (A : Int) < 16 := by omega
  have e2 := d3 A (by omega)
  have sA := HI.out.wd.box.soft (18 + A)
  have HONE : Hid (G.one code i = (G.has_ A i).setT i (G.t i).next) := by
    unfold Hid RW.one
    rw [HT.out]
    simp only
    rw [HX.out, if_neg (by omega)]
    simp only
    rw [if_neg (by decide), if_neg (by decide), if_neg (by decide), if_neg (by decide), if_neg (by decide), if_neg (by decide), if_neg (by decide), if_pos trivial]
    rw [Int.toNat_natCast]
  clear d2 d3
  go_wp2
  go_region
  go_wp2
  go_region
  go_wp2
  go_returns
  rw [HONE.out, HT.out]
  exact ⟨rfl, Wd.one (((HI.out.own (HI.out.wd.setHas (m := A) (by omega) (i : Int)) rfl _ _).put9 hi (by rfl) (by simp [RT.cells, RT.next])).drew.drew)⟩
end Go.Proofs.Ytehkcgjiimfdjaa
/- The contract of the document's own one: an unlock. -/
namespace Go.Proofs.Ytehkcgjiimfdjaa
open Go.RowKit
theorem In1.regAt9 {w0 V : World} {p q : Nat} {a : Option Addr} {len cap : Nat} {code : List (List Ins)} {G : RW} {i tb pl : Nat} {r0 r1 r2 r3 cd wt xo xa xb xc : Int} (h : In1 w0 V p q a len cap code G i tb pl r0 r1 r2 r3 cd wt xo xa xb xc) {b : Nat} (hb : b < 4) : V.cell? ⟨tb, 1 + b, none⟩ = some (.int .i64 ([r0, r1, r2, r3].getD b 0)) := by
  rw [h.ht.cell]
  rcases (by omega : b = 0 ∨ b = 1 ∨ b = 2 ∨ b = 3) with rfl | rfl | rfl | rfl <;> rfl
set_option maxRecDepth 100000 in
set_option maxHeartbeats 1000000 in
theorem one_9 {w0 w : World} {p q : Nat} {a : Option Addr} {len cap : Nat} {code : List (List Ins)} {G : RW} {i : Nat} (D : Go1 w0 w p q a len cap code G i) (hw : (G.t i).wt < 0) (hop : (insAt code i (G.t i).pl).op = 9) :
    Calls Try.prog 21 #[at_ p, .int .i64 (i : Int)] w fun e w' => e = .returned (.tuple #[]) ∧ OneAt w0 w' p q (.slice a len cap) (G.one code i) := by
  obtain ⟨b0, b1, _, _, _, _⟩ := D.wd.cell
  obtain ⟨t0, t1, t2, t3, t4, t5, t6, t7, t8⟩ := D.wd.tcell D.hi
  have hmany := D.wd.many
  have hplt := tag_lt D.wd.tagP
  have hqlt := tag_lt D.wd.tagQ
  have hi := D.hi
  have hpq := D.wd.ne
  obtain ⟨pl, r0, r1, r2, r3, cd, wt, xo, xa, xb, xc, cb, co, ib, io, ic, cl, rfl, hT, hX, hok, hwt, hpl, hp64, hcl, k0, j0, j1, j2, j3, hic, hicm, hlen, hlc, hcm, hcb, hib, HIN⟩ := D.reads
  have HT : Hid (G.t i = ⟨pl, [r0, r1, r2, r3], false, false, cd, wt⟩) := hT
  have hreg := insReg hok
  simp only at hreg
  rw [hT] at t0 t1 t2 t3 t4 t5 t6 t7 t8
  have t1' : w.cell? ⟨q, i * 9 + 1, none⟩ = some (.int .i64 r0) := t1
  have t2' : w.cell? ⟨q, i * 9 + 2, none⟩ = some (.int .i64 r1) := t2
  have t3' : w.cell? ⟨q, i * 9 + 3, none⟩ = some (.int .i64 r2) := t3
  have t4' : w.cell? ⟨q, i * 9 + 4, none⟩ = some (.int .i64 r3) := t4
  simp only at t0 t5 t6 t7 t8
  have hx1 : (0 : Int) ≤ (i : Int) := by omega
  have hx2 : (i : Int) < (G.ts.length : Int) := by omega
  have hy2 : (i : Int) < (len : Int) := by omega
  have hy3 : (0 : Int) ≤ (pl : Int) := by omega
  have hy4 : (pl : Int) < (cl : Int) := by omega
  rw [hT] at hw hop
  simp only at hw hop
  rw [hX] at hop
  simp only at hop
  subst hop
  obtain ⟨ha1, ha2⟩ := hreg.2.2.2.2.2.2.1 (.inr (.inl rfl))
  obtain ⟨A, rfl⟩ : ∃ N : Nat, xa = (N : Int) := ⟨xa.toNat, by omega⟩
  have HX : Hid (insAt code i pl = ⟨9, (A : Int), xb, xc⟩) := hX
  clear hX hreg hT
  have I0 := HIN w.heap.size rfl
  clear HIN t1 t2 t3 t4 D hok hcl hlen
  go_enter Try.func21, Try.ntmps21
  go_wp2
  go_region
  generalize hV : ((w.alloc (.cells #[.int .i64 (pl : Int), .int .i64 r0, .int .i64 r1, .int .i64 r2, .int .i64 r3, .bool false, .bool false, .int .i64 cd, .int .i64 wt] 54)).alloc (.cells #[.int .i64 9, .int .i64 (A : Int), .int .i64 xb, .int .i64 xc] 37)).drew = V at I0 ⊢
  generalize w.heap.size = tb at I0 ⊢
  have HI : Hid (In1 w0 V p q (some ⟨cb, co, none⟩) len cap code G i tb pl r0 r1 r2 r3 cd wt 9 (A : Int) xb xc) := I0
  obtain ⟨c0, c1, c2, c3, c4, c5, c6, c7, c8⟩ := I0.cells
  obtain ⟨s0, s1, s2, s3, s4, s5, s6, s7, s8⟩ := I0.softs
  obtain ⟨z0, z1, z2, z3⟩ := I0.xcells
  obtain ⟨d0, d1, d2, d3, _, _⟩ := I0.wd.cell
  obtain ⟨v0, v1, v2, v3, v4, v5, v6, v7, v8⟩ := I0.wd.softQ i
  obtain ⟨q0, q1, q2, q3, q4, q5, q6, q7, q8⟩ := I0.wd.tcell hi
  have hnp := I0.np
  have hnq := I0.nq
  have hn1 : p ≠ tb := by omega
  have hn2 : q ≠ tb := by omega
  have hn3 : p ≠ tb + 1 := by omega
  have hn4 : q ≠ tb + 1 := by omega
  clear hV t0 t1' t2' t3' t4' t5 t6 t7 t8 k0 j0 j1 j2 j3 b0 b1 hnp hnq hplt hqlt hcb hib
  have HONE : Hid (G.one code i = if G.has.getD A 0 = (i : Int) then (G.has_ A (-1)).setT i (G.t i).next else G.setT i { (G.t i).next with bd := true }) := by
    unfold Hid RW.one
    rw [HT.out]
    simp only
    rw [HX.out, if_neg (by omega)]
    simp only
    rw [if_neg (by decide), if_neg (by decide), if_neg (by decide), if_neg (by decide), if_neg (by decide), if_neg (by decide), if_neg (by decide), if_neg (by decide), if_pos trivial]
    rw [Int.toNat_natCast]
  clear d2 d3
  go_wp2_with fail
  refine (unlock_at HI.out.wd i A (by omega)).mono ?_
  rintro e W ⟨rfl, hW, hC, hS⟩
  have HW : Hid (Wd w0 W p q (.slice (some ⟨cb, co, none⟩) len cap) (if G.has.getD A 0 = (i : Int) then G.has_ A (-1) else G)) := hW
  have hb : ∀ k, k ≠ p → k < V.heap.size → W.heap[k]? = V.heap[k]? := fun k hk hl => hC.block k hl hk
  have ht := HI.out.ht.kept (hb tb (Ne.symm hn1) HI.out.ht.lt)
  have hx := HI.out.hx.kept (hb (tb + 1) (Ne.symm hn3) HI.out.hx.lt)
  have HIN : Hid (∀ G' : RW, G'.ea = G.ea → Wd w0 W p q (.slice (some ⟨cb, co, none⟩) len cap) G' → G'.t i = G.t i → i < G'.ts.length → In1 w0 W p q (some ⟨cb, co, none⟩) len cap code G' i tb pl r0 r1 r2 r3 cd wt 9 (A : Int) xb xc) := fun G' h1 h2 h3 h4 => ⟨h2, h4, h3.trans HT.out, ht, hx, HI.out.np, HI.out.nq, fun b e => HI.out.ne b (by rw [← h1]; exact e), HI.out.nb⟩
  clear hW hC hS hb c0 c1 c2 c3 c4 c5 c6 c7 c8 s0 s1 s2 s3 s4 s5 s6 s7 s8 z0 z1 z2 z3 d0 d1 v0 v1 v2 v3 v4 v5 v6 v7 v8 q0 q1 q2 q3 q4 q5 q6 q7 q8 ht hx
  by_cases hz : G.has.getD A 0 = (i : Int)
  · have J : Hid (In1 w0 W p q (some ⟨cb, co, none⟩) len cap code (G.has_ A (-1)) i tb pl r0 r1 r2 r3 cd wt 9 (A : Int) xb xc) := by
      have h9 := HW.out
      rw [if_pos hz] at h9
      exact HIN.out _ rfl h9 rfl hi
    rw [if_pos hz] at HONE
    have hd : decide (G.has.getD A 0 = (i : Int)) = true := by simpa using hz
    rw [hd]
    clear hd hz HW HIN
    obtain ⟨c0, c1, c2, c3, c4, c5, c6, c7, c8⟩ := J.out.cells
    obtain ⟨s0, s1, s2, s3, s4, s5, s6, s7, s8⟩ := J.out.softs
    obtain ⟨z0, z1, z2, z3⟩ := J.out.xcells
    have d1 : W.cell? ⟨p, 1, none⟩ = some (.slice (some ⟨q, 0, none⟩) G.ts.length G.ts.length) := J.out.wd.cell.2.1
    obtain ⟨v0, v1, v2, v3, v4, v5, v6, v7, v8⟩ := J.out.wd.softQ i
    obtain ⟨q0, q1, q2, q3, q4, q5, q6, q7, q8⟩ := J.out.wd.tcell J.out.hi
    go_wp2
    go_region
    go_wp2
    go_returns
    rw [HONE.out, HT.out]
    exact ⟨rfl, Wd.one (((J.out.own (J.out.own J.out.wd rfl _ _) rfl _ _).put9 hi (by rfl) (by simp [RT.cells, RT.next])).drew)⟩
  · have J : Hid (In1 w0 W p q (some ⟨cb, co, none⟩) len cap code G i tb pl r0 r1 r2 r3 cd wt 9 (A : Int) xb xc) := by
      have h9 := HW.out
      rw [if_neg hz] at h9
      exact HIN.out _ rfl h9 rfl hi
    rw [if_neg hz] at HONE
    have hd : decide (G.has.getD A 0 = (i : Int)) = false := by simpa using hz
    rw [hd]
    clear hd hz HW HIN
    obtain ⟨c0, c1, c2, c3, c4, c5, c6, c7, c8⟩ := J.out.cells
    obtain ⟨s0, s1, s2, s3, s4, s5, s6, s7, s8⟩ := J.out.softs
    obtain ⟨z0, z1, z2, z3⟩ := J.out.xcells
    have d1 : W.cell? ⟨p, 1, none⟩ = some (.slice (some ⟨q, 0, none⟩) G.ts.length G.ts.length) := J.out.wd.cell.2.1
    obtain ⟨v0, v1, v2, v3, v4, v5, v6, v7, v8⟩ := J.out.wd.softQ i
    obtain ⟨q0, q1, q2, q3, q4, q5, q6, q7, q8⟩ := J.out.wd.tcell J.out.hi
    go_wp2
    go_region
    go_wp2
    go_returns
    rw [HONE.out, HT.out]
    exact ⟨rfl, Wd.one (((J.out.own (J.out.own J.out.wd rfl _ _) rfl _ _).put9 hi (by rfl) (by simp [RT.cells, RT.next])).drew)⟩
end Go.Proofs.Ytehkcgjiimfdjaa
/- The contract of the document's own one: a wait. -/
namespace Go.Proofs.Ytehkcgjiimfdjaa
open Go.RowKit
theorem In1.regAt10 {w0 V : World} {p q : Nat} {a : Option Addr} {len cap : Nat} {code : List (List Ins)} {G : RW} {i tb pl : Nat} {r0 r1 r2 r3 cd wt xo xa xb xc : Int} (h : In1 w0 V p q a len cap code G i tb pl r0 r1 r2 r3 cd wt xo xa xb xc) {b : Nat} (hb : b < 4) : V.cell? ⟨tb, 1 + b, none⟩ = some (.int .i64 ([r0, r1, r2, r3].getD b 0)) := by
  rw [h.ht.cell]
  rcases (by omega : b = 0 ∨ b = 1 ∨ b = 2 ∨ b = 3) with rfl | rfl | rfl | rfl <;> rfl
set_option maxRecDepth 100000 in
set_option maxHeartbeats 1000000 in
theorem one_10 {w0 w : World} {p q : Nat} {a : Option Addr} {len cap : Nat} {code : List (List Ins)} {G : RW} {i : Nat} (D : Go1 w0 w p q a len cap code G i) (hw : (G.t i).wt < 0) (hop : (insAt code i (G.t i).pl).op = 10) :
    Calls Try.prog 21 #[at_ p, .int .i64 (i : Int)] w fun e w' => e = .returned (.tuple #[]) ∧ OneAt w0 w' p q (.slice a len cap) (G.one code i) := by
  obtain ⟨b0, b1, _, _, _, _⟩ := D.wd.cell
  obtain ⟨t0, t1, t2, t3, t4, t5, t6, t7, t8⟩ := D.wd.tcell D.hi
  have hmany := D.wd.many
  have hplt := tag_lt D.wd.tagP
  have hqlt := tag_lt D.wd.tagQ
  have hi := D.hi
  have hpq := D.wd.ne
  obtain ⟨pl, r0, r1, r2, r3, cd, wt, xo, xa, xb, xc, cb, co, ib, io, ic, cl, rfl, hT, hX, hok, hwt, hpl, hp64, hcl, k0, j0, j1, j2, j3, hic, hicm, hlen, hlc, hcm, hcb, hib, HIN⟩ := D.reads
  have HT : Hid (G.t i = ⟨pl, [r0, r1, r2, r3], false, false, cd, wt⟩) := hT
  have hreg := insReg hok
  simp only at hreg
  rw [hT] at t0 t1 t2 t3 t4 t5 t6 t7 t8
  have t1' : w.cell? ⟨q, i * 9 + 1, none⟩ = some (.int .i64 r0) := t1
  have t2' : w.cell? ⟨q, i * 9 + 2, none⟩ = some (.int .i64 r1) := t2
  have t3' : w.cell? ⟨q, i * 9 + 3, none⟩ = some (.int .i64 r2) := t3
  have t4' : w.cell? ⟨q, i * 9 + 4, none⟩ = some (.int .i64 r3) := t4
  simp only at t0 t5 t6 t7 t8
  have hx1 : (0 : Int) ≤ (i : Int) := by omega
  have hx2 : (i : Int) < (G.ts.length : Int) := by omega
  have hy2 : (i : Int) < (len : Int) := by omega
  have hy3 : (0 : Int) ≤ (pl : Int) := by omega
  have hy4 : (pl : Int) < (cl : Int) := by omega
  rw [hT] at hw hop
  simp only at hw hop
  rw [hX] at hop
  simp only at hop
  subst hop
  obtain ⟨⟨hb1, hb2⟩, ha1, ha2⟩ := hreg.2.2.2.2.2.2.2 rfl
  obtain ⟨A, rfl⟩ : ∃ N : Nat, xa = (N : Int) := ⟨xa.toNat, by omega⟩
  obtain ⟨Bq, rfl⟩ : ∃ N : Nat, xb = (N : Int) := ⟨xb.toNat, by omega⟩
  have HX : Hid (insAt code i pl = ⟨10, (A : Int), (Bq : Int), xc⟩) := hX
  clear hX hreg hT
  have I0 := HIN w.heap.size rfl
  clear HIN t1 t2 t3 t4 D hok hcl hlen
  go_enter Try.func21, Try.ntmps21
  go_wp2
  go_region
  generalize hV : ((w.alloc (.cells #[.int .i64 (pl : Int), .int .i64 r0, .int .i64 r1, .int .i64 r2, .int .i64 r3, .bool false, .bool false, .int .i64 cd, .int .i64 wt] 54)).alloc (.cells #[.int .i64 10, .int .i64 (A : Int), .int .i64 (Bq : Int), .int .i64 xc] 37)).drew = V at I0 ⊢
  generalize w.heap.size = tb at I0 ⊢
  have HI : Hid (In1 w0 V p q (some ⟨cb, co, none⟩) len cap code G i tb pl r0 r1 r2 r3 cd wt 10 (A : Int) (Bq : Int) xc) := I0
  obtain ⟨c0, c1, c2, c3, c4, c5, c6, c7, c8⟩ := I0.cells
  obtain ⟨s0, s1, s2, s3, s4, s5, s6, s7, s8⟩ := I0.softs
  obtain ⟨z0, z1, z2, z3⟩ := I0.xcells
  obtain ⟨d0, d1, d2, d3, _, _⟩ := I0.wd.cell
  obtain ⟨v0, v1, v2, v3, v4, v5, v6, v7, v8⟩ := I0.wd.softQ i
  obtain ⟨q0, q1, q2, q3, q4, q5, q6, q7, q8⟩ := I0.wd.tcell hi
  have hnp := I0.np
  have hnq := I0.nq
  have hn1 : p ≠ tb := by omega
  have hn2 : q ≠ tb := by omega
  have hn3 : p ≠ tb + 1 := by omega
  have hn4 : q ≠ tb + 1 := by omega
  clear hV t0 t1' t2' t3' t4' t5 t6 t7 t8 k0 j0 j1 j2 j3 b0 b1 hnp hnq hplt hqlt hcb hib
  have HONE : Hid (G.one code i = if G.has.getD Bq 0 = (i : Int) then (G.has_ Bq (-1)).setT i { G.t i with cd := (A : Int), wt := (Bq : Int) } else G.setT i { (G.t i).next with bd := true }) := by
    unfold Hid RW.one
    rw [HT.out]
    simp only
    rw [HX.out, if_neg (by omega)]
    simp only
    rw [if_neg (by decide), if_neg (by decide), if_neg (by decide), if_neg (by decide), if_neg (by decide), if_neg (by decide), if_neg (by decide), if_neg (by decide), if_neg (by decide), if_pos trivial]
    rw [Int.toNat_natCast]
  clear d2 d3
  go_wp2_with fail
  refine (unlock_at HI.out.wd i Bq (by omega)).mono ?_
  rintro e W ⟨rfl, hW, hC, hS⟩
  have HW : Hid (Wd w0 W p q (.slice (some ⟨cb, co, none⟩) len cap) (if G.has.getD Bq 0 = (i : Int) then G.has_ Bq (-1) else G)) := hW
  have hb : ∀ k, k ≠ p → k < V.heap.size → W.heap[k]? = V.heap[k]? := fun k hk hl => hC.block k hl hk
  have ht := HI.out.ht.kept (hb tb (Ne.symm hn1) HI.out.ht.lt)
  have hx := HI.out.hx.kept (hb (tb + 1) (Ne.symm hn3) HI.out.hx.lt)
  have HIN : Hid (∀ G' : RW, G'.ea = G.ea → Wd w0 W p q (.slice (some ⟨cb, co, none⟩) len cap) G' → G'.t i = G.t i → i < G'.ts.length → In1 w0 W p q (some ⟨cb, co, none⟩) len cap code G' i tb pl r0 r1 r2 r3 cd wt 10 (A : Int) (Bq : Int) xc) := fun G' h1 h2 h3 h4 => ⟨h2, h4, h3.trans HT.out, ht, hx, HI.out.np, HI.out.nq, fun b e => HI.out.ne b (by rw [← h1]; exact e), HI.out.nb⟩
  clear hW hC hS hb c0 c1 c2 c3 c4 c5 c6 c7 c8 s0 s1 s2 s3 s4 s5 s6 s7 s8 z0 z1 z2 z3 d0 d1 v0 v1 v2 v3 v4 v5 v6 v7 v8 q0 q1 q2 q3 q4 q5 q6 q7 q8 ht hx
  by_cases hz : G.has.getD Bq 0 = (i : Int)
  · have J : Hid (In1 w0 W p q (some ⟨cb, co, none⟩) len cap code (G.has_ Bq (-1)) i tb pl r0 r1 r2 r3 cd wt 10 (A : Int) (Bq : Int) xc) := by
      have h9 := HW.out
      rw [if_pos hz] at h9
      exact HIN.out _ rfl h9 rfl hi
    rw [if_pos hz] at HONE
    have hd : decide (G.has.getD Bq 0 = (i : Int)) = true := by simpa using hz
    rw [hd]
    clear hd hz HW HIN
    obtain ⟨c0, c1, c2, c3, c4, c5, c6, c7, c8⟩ := J.out.cells
    obtain ⟨s0, s1, s2, s3, s4, s5, s6, s7, s8⟩ := J.out.softs
    obtain ⟨z0, z1, z2, z3⟩ := J.out.xcells
    have d1 : W.cell? ⟨p, 1, none⟩ = some (.slice (some ⟨q, 0, none⟩) G.ts.length G.ts.length) := J.out.wd.cell.2.1
    obtain ⟨v0, v1, v2, v3, v4, v5, v6, v7, v8⟩ := J.out.wd.softQ i
    obtain ⟨q0, q1, q2, q3, q4, q5, q6, q7, q8⟩ := J.out.wd.tcell J.out.hi
    go_wp2
    go_region
    go_wp2
    go_returns
    rw [HONE.out, HT.out]
    exact ⟨rfl, Wd.one (((J.out.own (J.out.own (J.out.own (J.out.own J.out.wd rfl _ _) rfl _ _) rfl _ _) rfl _ _).put9 hi (by rfl) (by simp [RT.cells])).drew)⟩
  · have J : Hid (In1 w0 W p q (some ⟨cb, co, none⟩) len cap code G i tb pl r0 r1 r2 r3 cd wt 10 (A : Int) (Bq : Int) xc) := by
      have h9 := HW.out
      rw [if_neg hz] at h9
      exact HIN.out _ rfl h9 rfl hi
    rw [if_neg hz] at HONE
    have hd : decide (G.has.getD Bq 0 = (i : Int)) = false := by simpa using hz
    rw [hd]
    clear hd hz HW HIN
    obtain ⟨c0, c1, c2, c3, c4, c5, c6, c7, c8⟩ := J.out.cells
    obtain ⟨s0, s1, s2, s3, s4, s5, s6, s7, s8⟩ := J.out.softs
    obtain ⟨z0, z1, z2, z3⟩ := J.out.xcells
    have d1 : W.cell? ⟨p, 1, none⟩ = some (.slice (some ⟨q, 0, none⟩) G.ts.length G.ts.length) := J.out.wd.cell.2.1
    obtain ⟨v0, v1, v2, v3, v4, v5, v6, v7, v8⟩ := J.out.wd.softQ i
    obtain ⟨q0, q1, q2, q3, q4, q5, q6, q7, q8⟩ := J.out.wd.tcell J.out.hi
    go_wp2
    go_region
    go_wp2
    go_returns
    rw [HONE.out, HT.out]
    exact ⟨rfl, Wd.one (((J.out.own (J.out.own J.out.wd rfl _ _) rfl _ _).put9 hi (by rfl) (by simp [RT.cells, RT.next])).drew)⟩
end Go.Proofs.Ytehkcgjiimfdjaa
