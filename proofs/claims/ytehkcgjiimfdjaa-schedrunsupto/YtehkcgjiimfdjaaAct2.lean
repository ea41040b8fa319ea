/- The contract of do: set and add. -/
import Derived.Test.YtehkcgjiimfdjaaAct0
namespace Go.Proofs.Ytehkcgjiimfdjaa
open Go.RowKit
set_option maxRecDepth 100000 in
set_option maxHeartbeats 1000000 in
theorem do_4 {w0 w : World} {p : Nat} {g : Bg} {B : PB} {i bb off : Nat} {x : Ins} (D : DoAt w0 w p g B i bb off x) (hx : x.op = 4) (hph : (B.t i).ph = 0) : Calls Try.prog 27 #[at_ p, at_ (g.q i)] w (DoPost w0 w p g (B.act i)) := by
  have hT := D.ok.tasks i D.lt
  have hok := hT.insOk D.pl
  rw [D.ins] at hok
  have hok2 : isReg x.a = true := by simpa [insOk, hx] using hok
  obtain ⟨a, ea, ha⟩ := reg_of hok2
  have hA : B.act i = (B.setT i ((B.t i).reg a x.b)).next i ((B.t i).place + 1) := by
    unfold PB.act
    simp only [D.ins, hx, if_pos, ea, if_false, show ¬ (4 : Int) = 1 by decide, show ¬ (4 : Int) = 2 by decide, show ¬ (4 : Int) = 3 by decide]
    try rfl
  rw [hA]
  clear hA
  obtain ⟨c0, c1', c2', c7, cr⟩ := D.bd.tcell D.lt hT.regs
  obtain ⟨b0, b1, b2, b3, b4⟩ := D.bd.bcell D.ok.cells D.ok.own
  have hne := D.bd.ne D.lt
  have hplt := tag_lt D.bd.tagP
  have hqlt := tag_lt (D.bd.tagQ D.lt)
  obtain ⟨bd, ok, lt, pl, ins, c1, c2, i0, i1, i2, i3, hle, hmx, blt, big, wfb, q7⟩ := D
  have ra := cr a ha
  have sa := bd.tsoft lt (3 + a)
  rw [ea] at i1
  rw [hph] at q7
  have hx_a1 : (0 : Int) ≤ (a : Int) := by omega
  have hx_a2 : (a : Int) < 4 := by omega
  rw [hx] at i0
  have hy1 : (0 : Int) ≤ ((B.t i).place : Int) := by omega
  have hy2 : ((B.t i).place : Int) < ((B.t i).code.length : Int) := by omega
  clear c0 c1' c2' c7 cr b0 b1 b2 b3 b4 hok
  go_enter Try.func27, Try.ntmps27
  go_wp2_with fail
  go_region
  go_wp2_with fail
  go_region
  go_wp2_with fail
  go_region
  go_wp2_with fail
  rw [wrap64_in wfb]
  have H1 := bd.reg lt hT.regs a ha 0
  have H2 := H1.reg (i := i) (by rw [setT_len]; exact lt) (by rw [setT_t lt, reg_len]; exact hT.regs) a ha x.b
  rw [setT_t lt, setT_setT, reg_reg] at H2
  refine (next_at (H2.alloc _).drew.drew.drew (by rw [setT_len]; exact lt) (by rw [setT_t lt, reg_len]; exact hT.regs) (by rw [setT_t lt]; exact hph) _ ((B.t i).place + 1) (by omega)).mono ?_
  rintro _ w9 ⟨rfl, h9, r9⟩
  go_wp2
  go_returns
  exact ⟨rfl, g, h9, rfl, rfl, rfl, ((((bd.restT lt _ _).trans (H1.restT (i := i) (by rw [setT_len]; exact lt) _ _)).trans (Rest.alloc _ _)).drew.drew.drew).trans r9⟩
set_option maxRecDepth 100000 in
set_option maxHeartbeats 1000000 in
theorem do_5 {w0 w : World} {p : Nat} {g : Bg} {B : PB} {i bb off : Nat} {x : Ins} (D : DoAt w0 w p g B i bb off x) (hx : x.op = 5) (hph : (B.t i).ph = 0) : Calls Try.prog 27 #[at_ p, at_ (g.q i)] w (DoPost w0 w p g (B.act i)) := by
  have hT := D.ok.tasks i D.lt
  have hok := hT.insOk D.pl
  rw [D.ins] at hok
  have hok2 : isReg x.a = true := by simpa [insOk, hx] using hok
  obtain ⟨a, ea, ha⟩ := reg_of hok2
  have hA : B.act i = (B.setT i ((B.t i).reg a (wrap64 ((B.t i).r.getD a 0 + x.b)))).next i ((B.t i).place + 1) := by
    unfold PB.act
    simp only [D.ins, hx, if_pos, ea, if_false, show ¬ (5 : Int) = 1 by decide, show ¬ (5 : Int) = 2 by decide, show ¬ (5 : Int) = 3 by decide, show ¬ (5 : Int) = 4 by decide]
    try rfl
  rw [hA]
  clear hA
  obtain ⟨c0, c1', c2', c7, cr⟩ := D.bd.tcell D.lt hT.regs
  obtain ⟨b0, b1, b2, b3, b4⟩ := D.bd.bcell D.ok.cells D.ok.own
  have hne := D.bd.ne D.lt
  have hplt := tag_lt D.bd.tagP
  have hqlt := tag_lt (D.bd.tagQ D.lt)
  obtain ⟨bd, ok, lt, pl, ins, c1, c2, i0, i1, i2, i3, hle, hmx, blt, big, wfb, q7⟩ := D
  have ra := cr a ha
  have sa := bd.tsoft lt (3 + a)
  rw [ea] at i1
  rw [hph] at q7
  have hx_a1 : (0 : Int) ≤ (a : Int) := by omega
  have hx_a2 : (a : Int) < 4 := by omega
  rw [hx] at i0
  have hy1 : (0 : Int) ≤ ((B.t i).place : Int) := by omega
  have hy2 : ((B.t i).place : Int) < ((B.t i).code.length : Int) := by omega
  clear c0 c1' c2' c7 cr b0 b1 b2 b3 b4 hok
  go_enter Try.func27, Try.ntmps27
  go_wp2_with fail
  go_region
  go_wp2_with fail
  go_region
  go_wp2_with fail
  refine (next_at ((bd.reg lt hT.regs a ha (wrap64 ((B.t i).r.getD a 0 + x.b))).alloc _).drew.drew (by rw [setT_len]; exact lt) (by rw [setT_t lt, reg_len]; exact hT.regs) (by rw [setT_t lt]; exact hph) _ ((B.t i).place + 1) (by omega)).mono ?_
  rintro _ w9 ⟨rfl, h9, r9⟩
  go_wp2
  go_returns
  exact ⟨rfl, g, h9, rfl, rfl, rfl, (((bd.restT lt _ _).trans (Rest.alloc _ _)).drew.drew).trans r9⟩
end Go.Proofs.Ytehkcgjiimfdjaa
