/- The contract of the document's own one: a task that was told. -/
import Derived.Test.YtehkcgjiimfdjaaPbMem
namespace Go.Proofs.Ytehkcgjiimfdjaa
open Go.RowKit
set_option maxRecDepth 100000 in
set_option maxHeartbeats 1000000 in
theorem one_w {w0 w : World} {p q : Nat} {a : Option Addr} {len cap : Nat} {code : List (List Ins)} {G : RW} {i : Nat} (D : Go1 w0 w p q a len cap code G i) (hw : 0 ≤ (G.t i).wt) :
    Calls Try.prog 21 #[at_ p, .int .i64 (i : Int)] w fun e w' => e = .returned (.tuple #[]) ∧ OneAt w0 w' p q (.slice a len cap) (G.one code i) := by
  obtain ⟨b0, b1, _, _, _, _⟩ := D.wd.cell
  obtain ⟨t0, t1, t2, t3, t4, t5, t6, t7, t8⟩ := D.wd.tcell D.hi
  have hmany := D.wd.many
  have hplt := tag_lt D.wd.tagP
  have hqlt := tag_lt D.wd.tagQ
  have hi := D.hi
  have hpq := D.wd.ne
  obtain ⟨pl, r0, r1, r2, r3, cd, wt, xo, xa, xb, xc, cb, co, ib, io, ic, cl, rfl, hT, hX, hok, hwt, hpl, hp64, hcl, k0, j0, j1, j2, j3, hic, hicm, hlen, hlc, hcm, hcb, hib, HIN⟩ := D.reads
  have HT : Hid (G.t i = ⟨pl, [r0, r1, r2, r3], false, false, cd, wt⟩) := hT
  have hreg := insReg hok
  simp only at hreg
  rw [hT] at t0 t1 t2 t3 t4 t5 t6 t7 t8
  have t1' : w.cell? ⟨q, i * 9 + 1, none⟩ = some (.int .i64 r0) := t1
  have t2' : w.cell? ⟨q, i * 9 + 2, none⟩ = some (.int .i64 r1) := t2
  have t3' : w.cell? ⟨q, i * 9 + 3, none⟩ = some (.int .i64 r2) := t3
  have t4' : w.cell? ⟨q, i * 9 + 4, none⟩ = some (.int .i64 r3) := t4
  simp only at t0 t5 t6 t7 t8
  have hx1 : (0 : Int) ≤ (i : Int) := by omega
  have hx2 : (i : Int) < (G.ts.length : Int) := by omega
  have hy2 : (i : Int) < (len : Int) := by omega
  have hy3 : (0 : Int) ≤ (pl : Int) := by omega
  have hy4 : (pl : Int) < (cl : Int) := by omega
  rw [hT] at hw
  simp only at hw
  obtain ⟨m, rfl⟩ : ∃ N : Nat, wt = (N : Int) := ⟨wt.toNat, by omega⟩
  have hm2 : (m : Int) < 16 := by omega
  clear hreg hT hX
  have I0 := HIN w.heap.size rfl
  clear HIN t1 t2 t3 t4 D hok hcl hlen
  go_enter Try.func21, Try.ntmps21
  go_wp2
  go_region
  generalize hV : ((w.alloc (.cells #[.int .i64 (pl : Int), .int .i64 r0, .int .i64 r1, .int .i64 r2, .int .i64 r3, .bool false, .bool false, .int .i64 cd, .int .i64 (m : Int)] 54)).alloc (.cells #[.int .i64 xo, .int .i64 xa, .int .i64 xb, .int .i64 xc] 37)).drew = V at I0 ⊢
  generalize w.heap.size = tb at I0 ⊢
  have HI : Hid (In1 w0 V p q (some ⟨cb, co, none⟩) len cap code G i tb pl r0 r1 r2 r3 cd (m : Int) xo xa xb xc) := I0
  obtain ⟨c0, c1, c2, c3, c4, c5, c6, c7, c8⟩ := I0.cells
  obtain ⟨s0, s1, s2, s3, s4, s5, s6, s7, s8⟩ := I0.softs
  obtain ⟨z0, z1, z2, z3⟩ := I0.xcells
  obtain ⟨d0, d1, d2, d3, _, _⟩ := I0.wd.cell
  obtain ⟨v0, v1, v2, v3, v4, v5, v6, v7, v8⟩ := I0.wd.softQ i
  obtain ⟨q0, q1, q2, q3, q4, q5, q6, q7, q8⟩ := I0.wd.tcell hi
  have hnp := I0.np
  have hnq := I0.nq
  have hn1 : p ≠ tb := by omega
  have hn2 : q ≠ tb := by omega
  have hn3 : p ≠ tb + 1 := by omega
  have hn4 : q ≠ tb + 1 := by omega
  clear hV t0 t1' t2' t3' t4' t5 t6 t7 t8 k0 j0 j1 j2 j3 b0 b1 hnp hnq hplt hqlt hcb hib
  have HONE : Hid (G.one code i = (G.has_ m i).setT i { (G.t i).next with wt := -1 }) := by
    unfold Hid RW.one
    rw [HT.out]
    simp only
    rw [if_pos (by omega), Int.toNat_natCast]
  have e2 := d3 m (by omega)
  have sA := HI.out.wd.box.soft (18 + m)
  clear d2 d3
  go_wp2
  all_goals
    go_region
    all_goals
      go_wp2
      all_goals
        go_region
        all_goals
          go_wp2
          go_returns
          rw [HONE.out, HT.out]
          exact ⟨rfl, Wd.one (((HI.out.own (HI.out.own (HI.out.wd.setHas (m := m) (by omega) (i : Int)) rfl _ _) rfl _ _).put9 hi (by rfl) (by simp [RT.cells, RT.next])).drew.drew)⟩
end Go.Proofs.Ytehkcgjiimfdjaa
