/- The contract of do: load and store. -/
import Derived.Test.YtehkcgjiimfdjaaAct0
namespace Go.Proofs.Ytehkcgjiimfdjaa
open Go.RowKit
set_option maxRecDepth 100000 in
set_option maxHeartbeats 1000000 in
theorem do_1 {w0 w : World} {p : Nat} {g : Bg} {B : PB} {i bb off : Nat} {x : Ins} (D : DoAt w0 w p g B i bb off x) (hx : x.op = 1) (hph : (B.t i).ph = 0) : Calls Try.prog 27 #[at_ p, at_ (g.q i)] w (DoPost w0 w p g (B.act i)) := by
  have hT := D.ok.tasks i D.lt
  have hok := hT.insOk D.pl
  rw [D.ins] at hok
  have hok2 : isReg x.a = true ∧ isSh x.b = true := by simpa [insOk, hx] using hok
  obtain ⟨a, ea, ha⟩ := reg_of hok2.1
  obtain ⟨b, eb, hb⟩ := sh_of hok2.2
  have hA : B.act i = (B.setT i ((B.t i).reg a (B.cells.getD b 0))).next i ((B.t i).place + 1) := by
    unfold PB.act
    simp only [D.ins, hx, if_pos, ea, eb]
    try rfl
  rw [hA]
  clear hA
  obtain ⟨c0, c1', c2', c7, cr⟩ := D.bd.tcell D.lt hT.regs
  obtain ⟨b0, b1, b2, b3, b4⟩ := D.bd.bcell D.ok.cells D.ok.own
  have hne := D.bd.ne D.lt
  have hplt := tag_lt D.bd.tagP
  have hqlt := tag_lt (D.bd.tagQ D.lt)
  obtain ⟨bd, ok, lt, pl, ins, c1, c2, i0, i1, i2, i3, hle, hmx, blt, big, wfb, q7⟩ := D
  have ra := cr a ha
  have rb := b0 b hb
  have sa := bd.tsoft lt (3 + a)
  rw [ea] at i1
  rw [eb] at i2
  rw [hph] at q7
  have hx_a1 : (0 : Int) ≤ (a : Int) := by omega
  have hx_a2 : (a : Int) < 4 := by omega
  have hx_b1 : (0 : Int) ≤ (b : Int) := by omega
  have hx_b2 : (b : Int) < 16 := by omega
  rw [hx] at i0
  have hy1 : (0 : Int) ≤ ((B.t i).place : Int) := by omega
  have hy2 : ((B.t i).place : Int) < ((B.t i).code.length : Int) := by omega
  clear c0 c1' c2' c7 cr b0 b1 b2 b3 b4 hok
  go_enter Try.func27, Try.ntmps27
  go_wp2_with fail
  go_region
  go_wp2_with fail
  go_region
  go_wp2_with fail
  refine (next_at ((bd.reg lt hT.regs a ha (B.cells.getD b 0)).alloc _).drew.drew (by rw [setT_len]; exact lt) (by rw [setT_t lt, reg_len]; exact hT.regs) (by rw [setT_t lt]; exact hph) _ ((B.t i).place + 1) (by omega)).mono ?_
  rintro _ w9 ⟨rfl, h9, r9⟩
  go_wp2
  go_returns
  exact ⟨rfl, g, h9, rfl, rfl, rfl, (((bd.restT lt _ _).trans (Rest.alloc _ _)).drew.drew).trans r9⟩
set_option maxRecDepth 100000 in
set_option maxHeartbeats 1000000 in
theorem do_2 {w0 w : World} {p : Nat} {g : Bg} {B : PB} {i bb off : Nat} {x : Ins} (D : DoAt w0 w p g B i bb off x) (hx : x.op = 2) (hph : (B.t i).ph = 0) : Calls Try.prog 27 #[at_ p, at_ (g.q i)] w (DoPost w0 w p g (B.act i)) := by
  have hT := D.ok.tasks i D.lt
  have hok := hT.insOk D.pl
  rw [D.ins] at hok
  have hok2 : isSh x.a = true ∧ isReg x.b = true := by simpa [insOk, hx] using hok
  obtain ⟨a, ea, ha⟩ := sh_of hok2.1
  obtain ⟨b, eb, hb⟩ := reg_of hok2.2
  have hA : B.act i = (B.put (a : Int) ((B.t i).r.getD b 0)).next i ((B.t i).place + 1) := by
    unfold PB.act
    simp only [D.ins, hx, if_pos, ea, eb, show ¬ (2 : Int) = 1 by decide, if_false]
    try rfl
  rw [hA]
  clear hA
  obtain ⟨c0, c1', c2', c7, cr⟩ := D.bd.tcell D.lt hT.regs
  obtain ⟨b0, b1, b2, b3, b4⟩ := D.bd.bcell D.ok.cells D.ok.own
  have hne := D.bd.ne D.lt
  have hplt := tag_lt D.bd.tagP
  have hqlt := tag_lt (D.bd.tagQ D.lt)
  obtain ⟨bd, ok, lt, pl, ins, c1, c2, i0, i1, i2, i3, hle, hmx, blt, big, wfb, q7⟩ := D
  have ra := b0 a ha
  have rb := cr b hb
  have sa := bd.bsoft a
  rw [ea] at i1
  rw [eb] at i2
  rw [hph] at q7
  have hx_a1 : (0 : Int) ≤ (a : Int) := by omega
  have hx_a2 : (a : Int) < 16 := by omega
  have hx_b1 : (0 : Int) ≤ (b : Int) := by omega
  have hx_b2 : (b : Int) < 4 := by omega
  rw [hx] at i0
  have hy1 : (0 : Int) ≤ ((B.t i).place : Int) := by omega
  have hy2 : ((B.t i).place : Int) < ((B.t i).code.length : Int) := by omega
  clear c0 c1' c2' c7 cr b0 b1 b2 b3 b4 hok
  go_enter Try.func27, Try.ntmps27
  go_wp2_with fail
  go_region
  go_wp2_with fail
  go_region
  go_wp2_with fail
  refine (next_at ((bd.put ok ha ((B.t i).r.getD b 0)).alloc _).drew.drew lt hT.regs hph _ ((B.t i).place + 1) (by omega)).mono ?_
  rintro _ w9 ⟨rfl, h9, r9⟩
  go_wp2
  go_returns
  exact ⟨rfl, g, h9, rfl, rfl, rfl, (((bd.restB _ _).trans (Rest.alloc _ _)).drew.drew).trans r9⟩
end Go.Proofs.Ytehkcgjiimfdjaa
