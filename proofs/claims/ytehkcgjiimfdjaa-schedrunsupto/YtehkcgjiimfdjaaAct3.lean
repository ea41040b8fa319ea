/- The contract of do: swap and jump where 0. -/
import Derived.Test.YtehkcgjiimfdjaaAct0
namespace Go.Proofs.Ytehkcgjiimfdjaa
open Go.RowKit
set_option maxRecDepth 100000 in
set_option maxHeartbeats 1000000 in
theorem do_3 {w0 w : World} {p : Nat} {g : Bg} {B : PB} {i bb off : Nat} {x : Ins} (D : DoAt w0 w p g B i bb off x) (hx : x.op = 3) (hph : (B.t i).ph = 0) : Calls Try.prog 27 #[at_ p, at_ (g.q i)] w (DoPost w0 w p g (B.act i)) := by
  have hT := D.ok.tasks i D.lt
  have hok := hT.insOk D.pl
  rw [D.ins] at hok
  have hok2 : isSh x.a = true ∧ (isReg x.b = true ∧ isReg x.c = true) := by simpa [insOk, hx] using hok
  obtain ⟨a, ea, ha⟩ := sh_of hok2.1
  obtain ⟨b, eb, hb⟩ := reg_of hok2.2.1
  obtain ⟨c, ec, hc⟩ := reg_of hok2.2.2
  have hA : B.act i = (B.swap i ⟨3, a, b, c⟩).next i ((B.t i).place + 1) := by
    unfold PB.act
    simp only [D.ins, hx, if_pos, if_false, show ¬ (3 : Int) = 1 by decide, show ¬ (3 : Int) = 2 by decide]
    rw [← ea, ← eb, ← ec, ← hx]
  rw [hA]
  clear hA
  obtain ⟨c0, c1', c2', c7, cr⟩ := D.bd.tcell D.lt hT.regs
  obtain ⟨b0, b1, b2, b3, b4⟩ := D.bd.bcell D.ok.cells D.ok.own
  have hne := D.bd.ne D.lt
  have hplt := tag_lt D.bd.tagP
  have hqlt := tag_lt (D.bd.tagQ D.lt)
  obtain ⟨bd, ok, lt, pl, ins, c1, c2, i0, i1, i2, i3, hle, hmx, blt, big, wfb, q7⟩ := D
  rw [ea] at i1
  rw [eb] at i2
  rw [ec] at i3
  rw [hph] at q7
  rw [hx] at i0
  have hy1 : (0 : Int) ≤ ((B.t i).place : Int) := by omega
  have hy2 : ((B.t i).place : Int) < ((B.t i).code.length : Int) := by omega
  clear c0 c1' c2' c7 cr b0 b1 b2 b3 b4 hok
  go_enter Try.func27, Try.ntmps27
  go_wp2_with fail
  go_region
  go_wp2_with fail
  refine (swap_at (bd.alloc _).drew ok lt 3 a b c ha hb hc).mono ?_
  rintro _ w8 ⟨rfl, h8, r8⟩
  obtain ⟨f1, f2, f3⟩ := swap_facts lt ⟨3, a, b, c⟩
  obtain ⟨_, _, _, k7, _⟩ := h8.tcell (i := i) (by rw [f1]; exact lt) (by rw [f2]; exact hT.regs)
  rw [f3, hph] at k7
  generalize B.swap i ⟨3, a, b, c⟩ = B8 at *
  go_wp2_with fail
  refine (next_at h8 (by rw [f1]; exact lt) (by rw [f2]; exact hT.regs) (by rw [f3]; exact hph) _ ((B.t i).place + 1) (by omega)).mono ?_
  rintro _ w9 ⟨rfl, h9, r9⟩
  go_wp2
  go_returns
  exact ⟨rfl, g, h9, rfl, rfl, rfl, ((Rest.alloc _ _).drew.trans r8).trans r9⟩
set_option maxRecDepth 100000 in
set_option maxHeartbeats 1000000 in
theorem do_6z {w0 w : World} {p : Nat} {g : Bg} {B : PB} {i bb off : Nat} {x : Ins} (D : DoAt w0 w p g B i bb off x) (hx : x.op = 6) (hph : (B.t i).ph = 0) (hv : (B.t i).get x.a = 0) : Calls Try.prog 27 #[at_ p, at_ (g.q i)] w (DoPost w0 w p g (B.act i)) := by
  have hT := D.ok.tasks i D.lt
  have hok := hT.insOk D.pl
  rw [D.ins] at hok
  have hok2 : isReg x.a = true ∧ (0 ≤ x.b ∧ x.b ≤ ((B.t i).code.length : Int)) := by simpa [insOk, hx] using hok
  obtain ⟨a, ea, ha⟩ := reg_of hok2.1
  obtain ⟨b, eb⟩ : ∃ b : Nat, x.b = (b : Int) := ⟨x.b.toNat, by omega⟩
  have hv2 : (B.t i).r.getD a 0 = 0 := by rw [ea] at hv; exact hv
  have hA : B.act i = B.next i b := by
    unfold PB.act
    simp only [D.ins, hx, eb, if_pos, if_false, show ¬ (6 : Int) = 1 by decide, show ¬ (6 : Int) = 2 by decide, show ¬ (6 : Int) = 3 by decide, show ¬ (6 : Int) = 4 by decide, show ¬ (6 : Int) = 5 by decide]
    rw [if_pos hv]
    rfl
  rw [hA]
  clear hA
  obtain ⟨c0, c1', c2', c7, cr⟩ := D.bd.tcell D.lt hT.regs
  obtain ⟨b0, b1, b2, b3, b4⟩ := D.bd.bcell D.ok.cells D.ok.own
  have hne := D.bd.ne D.lt
  have hplt := tag_lt D.bd.tagP
  have hqlt := tag_lt (D.bd.tagQ D.lt)
  obtain ⟨bd, ok, lt, pl, ins, c1, c2, i0, i1, i2, i3, hle, hmx, blt, big, wfb, q7⟩ := D
  have ra := cr a ha
  rw [ea] at i1
  rw [eb] at i2
  rw [hph] at q7
  have hx_a1 : (0 : Int) ≤ (a : Int) := by omega
  have hx_a2 : (a : Int) < 4 := by omega
  rw [hv2] at ra
  rw [hx] at i0
  have hy1 : (0 : Int) ≤ ((B.t i).place : Int) := by omega
  have hy2 : ((B.t i).place : Int) < ((B.t i).code.length : Int) := by omega
  clear c0 c1' c2' c7 cr b0 b1 b2 b3 b4 hok
  go_enter Try.func27, Try.ntmps27
  go_wp2_with fail
  go_region
  go_wp2_with fail
  go_region
  go_wp2_with fail
  refine (next_at (bd.alloc _).drew.drew lt hT.regs hph _ b rfl).mono ?_
  rintro _ w9 ⟨rfl, h9, r9⟩
  go_wp2
  go_returns
  exact ⟨rfl, g, h9, rfl, rfl, rfl, (Rest.alloc _ _).drew.drew.trans r9⟩
set_option maxRecDepth 100000 in
set_option maxHeartbeats 1000000 in
theorem do_6n {w0 w : World} {p : Nat} {g : Bg} {B : PB} {i bb off : Nat} {x : Ins} (D : DoAt w0 w p g B i bb off x) (hx : x.op = 6) (hph : (B.t i).ph = 0) (hv : (B.t i).get x.a ≠ 0) : Calls Try.prog 27 #[at_ p, at_ (g.q i)] w (DoPost w0 w p g (B.act i)) := by
  have hT := D.ok.tasks i D.lt
  have hok := hT.insOk D.pl
  rw [D.ins] at hok
  have hok2 : isReg x.a = true ∧ (0 ≤ x.b ∧ x.b ≤ ((B.t i).code.length : Int)) := by simpa [insOk, hx] using hok
  obtain ⟨a, ea, ha⟩ := reg_of hok2.1
  obtain ⟨b, eb⟩ : ∃ b : Nat, x.b = (b : Int) := ⟨x.b.toNat, by omega⟩
  have hv2 : (B.t i).r.getD a 0 ≠ 0 := by rw [ea] at hv; exact hv
  have hA : B.act i = B.next i ((B.t i).place + 1) := by
    unfold PB.act
    simp only [D.ins, hx, eb, if_pos, if_false, show ¬ (6 : Int) = 1 by decide, show ¬ (6 : Int) = 2 by decide, show ¬ (6 : Int) = 3 by decide, show ¬ (6 : Int) = 4 by decide, show ¬ (6 : Int) = 5 by decide]
    rw [if_neg hv]
  rw [hA]
  clear hA
  obtain ⟨c0, c1', c2', c7, cr⟩ := D.bd.tcell D.lt hT.regs
  obtain ⟨b0, b1, b2, b3, b4⟩ := D.bd.bcell D.ok.cells D.ok.own
  have hne := D.bd.ne D.lt
  have hplt := tag_lt D.bd.tagP
  have hqlt := tag_lt (D.bd.tagQ D.lt)
  obtain ⟨bd, ok, lt, pl, ins, c1, c2, i0, i1, i2, i3, hle, hmx, blt, big, wfb, q7⟩ := D
  have ra := cr a ha
  rw [ea] at i1
  rw [eb] at i2
  rw [hph] at q7
  have hx_a1 : (0 : Int) ≤ (a : Int) := by omega
  have hx_a2 : (a : Int) < 4 := by omega
  have hv3 : ((B.t i).r.getD a 0 != 0) = true := by simpa using hv2
  generalize (B.t i).r.getD a 0 = v at *
  rw [hx] at i0
  have hy1 : (0 : Int) ≤ ((B.t i).place : Int) := by omega
  have hy2 : ((B.t i).place : Int) < ((B.t i).code.length : Int) := by omega
  clear c0 c1' c2' c7 cr b0 b1 b2 b3 b4 hok
  go_enter Try.func27, Try.ntmps27
  go_wp2_with fail
  go_region
  go_wp2_with fail
  go_region
  go_wp2_with fail
  refine (next_at (bd.alloc _).drew.drew lt hT.regs hph _ ((B.t i).place + 1) (by omega)).mono ?_
  rintro _ w9 ⟨rfl, h9, r9⟩
  go_wp2
  go_returns
  exact ⟨rfl, g, h9, rfl, rfl, rfl, (Rest.alloc _ _).drew.drew.trans r9⟩
end Go.Proofs.Ytehkcgjiimfdjaa
