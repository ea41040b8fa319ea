/- The contract of do: unlock and end. -/
import Derived.Test.YtehkcgjiimfdjaaAct0
namespace Go.Proofs.Ytehkcgjiimfdjaa
open Go.RowKit
set_option maxRecDepth 100000 in
set_option maxHeartbeats 1000000 in
theorem do_9 {w0 w : World} {p : Nat} {g : Bg} {B : PB} {i bb off : Nat} {x : Ins} (D : DoAt w0 w p g B i bb off x) (hx : x.op = 9)  : Calls Try.prog 27 #[at_ p, at_ (g.q i)] w (DoPost w0 w p g (B.act i)) := by
  have hT := D.ok.tasks i D.lt
  have hok := hT.insOk D.pl
  rw [D.ins] at hok
  have hok2 : isSh x.a = true := by simpa [insOk, hx] using hok
  obtain ⟨a, ea, ha⟩ := sh_of hok2
  have hA : B.act i = (B.release i (a : Int) 0).next i ((B.t i).place + 1) := by
    unfold PB.act
    simp only [D.ins, hx, if_pos, ea, if_false, show ¬ (9 : Int) = 1 by decide, show ¬ (9 : Int) = 2 by decide, show ¬ (9 : Int) = 3 by decide, show ¬ (9 : Int) = 4 by decide, show ¬ (9 : Int) = 5 by decide, show ¬ (9 : Int) = 6 by decide, show ¬ (9 : Int) = 7 by decide, show ¬ (9 : Int) = 8 by decide]
    try rfl
  rw [hA]
  clear hA
  obtain ⟨c0, c1', c2', c7, cr⟩ := D.bd.tcell D.lt hT.regs
  obtain ⟨b0, b1, b2, b3, b4⟩ := D.bd.bcell D.ok.cells D.ok.own
  have hne := D.bd.ne D.lt
  have hplt := tag_lt D.bd.tagP
  have hqlt := tag_lt (D.bd.tagQ D.lt)
  obtain ⟨bd, ok, lt, pl, ins, c1, c2, i0, i1, i2, i3, hle, hmx, blt, big, wfb, q7⟩ := D
  rw [ea] at i1
  have hx_a1 : (0 : Int) ≤ (a : Int) := by omega
  have hx_a2 : (a : Int) < 16 := by omega
  rw [hx] at i0
  have hy1 : (0 : Int) ≤ ((B.t i).place : Int) := by omega
  have hy2 : ((B.t i).place : Int) < ((B.t i).code.length : Int) := by omega
  clear c0 c1' c2' c7 cr b0 b1 b2 b3 b4 hok
  go_enter Try.func27, Try.ntmps27
  go_wp2_with fail
  go_region
  go_wp2_with fail
  refine (release_at (bd.alloc _).drew ok lt a ha 0).mono ?_
  rintro _ w8 ⟨rfl, h8, r8⟩
  obtain ⟨f1, f2, f3⟩ := release_facts lt (a : Int) 0
  obtain ⟨_, _, _, k7, _⟩ := h8.tcell (i := i) (by rw [f1]; exact lt) (by rw [f2]; exact hT.regs)
  generalize B.release i (a : Int) 0 = B8 at *
  rcases f3 with f3 | f3
  · rw [f3] at k7
    go_wp2_with fail
    refine (next_at h8 (by rw [f1]; exact lt) (by rw [f2]; exact hT.regs) f3 _ ((B.t i).place + 1) (by omega)).mono ?_
    rintro _ w9 ⟨rfl, h9, r9⟩
    go_wp2
    go_returns
    exact ⟨rfl, g, h9, rfl, rfl, rfl, ((Rest.alloc _ _).drew.trans r8).trans r9⟩
  · rw [f3] at k7
    have e8 : B8.next i ((B.t i).place + 1) = B8 := by
      unfold PB.next
      rw [f3]
      rfl
    have H8 : Hid (BdAt w0 w8 p g (B8.next i ((B.t i).place + 1))) := by
      unfold Hid
      rw [e8]
      exact h8
    clear e8
    go_wp2
    go_returns
    exact ⟨rfl, g, H8.out, rfl, rfl, rfl, (Rest.alloc _ _).drew.trans r8⟩
set_option maxRecDepth 100000 in
set_option maxHeartbeats 1000000 in
theorem do_14 {w0 w : World} {p : Nat} {g : Bg} {B : PB} {i bb off : Nat} {x : Ins} (D : DoAt w0 w p g B i bb off x) (hx : x.op = 14) (hph : (B.t i).ph = 0) : Calls Try.prog 27 #[at_ p, at_ (g.q i)] w (DoPost w0 w p g (B.act i)) := by
  have hT := D.ok.tasks i D.lt
  have hok := hT.insOk D.pl
  rw [D.ins] at hok
  have hA : B.act i = B.setT i ((B.t i).at 3) := by
    unfold PB.act
    simp only [D.ins, hx, if_false, show ¬ (14 : Int) = 1 by decide, show ¬ (14 : Int) = 2 by decide, show ¬ (14 : Int) = 3 by decide, show ¬ (14 : Int) = 4 by decide, show ¬ (14 : Int) = 5 by decide, show ¬ (14 : Int) = 6 by decide, show ¬ (14 : Int) = 7 by decide, show ¬ (14 : Int) = 8 by decide, show ¬ (14 : Int) = 9 by decide, show ¬ (14 : Int) = 10 by decide, show ¬ (14 : Int) = 11 by decide, show ¬ (14 : Int) = 12 by decide, show ¬ (14 : Int) = 13 by decide]
    try rfl
  rw [hA]
  clear hA
  obtain ⟨c0, c1', c2', c7, cr⟩ := D.bd.tcell D.lt hT.regs
  obtain ⟨b0, b1, b2, b3, b4⟩ := D.bd.bcell D.ok.cells D.ok.own
  have hne := D.bd.ne D.lt
  have hplt := tag_lt D.bd.tagP
  have hqlt := tag_lt (D.bd.tagQ D.lt)
  obtain ⟨bd, ok, lt, pl, ins, c1, c2, i0, i1, i2, i3, hle, hmx, blt, big, wfb, q7⟩ := D
  have s7 := bd.tsoft lt 7
  rw [hph] at q7
  rw [hx] at i0
  have hy1 : (0 : Int) ≤ ((B.t i).place : Int) := by omega
  have hy2 : ((B.t i).place : Int) < ((B.t i).code.length : Int) := by omega
  clear c0 c1' c2' c7 cr b0 b1 b2 b3 b4 hok
  go_enter Try.func27, Try.ntmps27
  go_wp2_with fail
  go_region
  go_wp2_with fail
  go_returns
  exact ⟨rfl, g, ((bd.phase lt hT.regs 3).alloc _).drew, rfl, rfl, rfl, ((bd.restT lt _ _).trans (Rest.alloc _ _)).drew⟩
end Go.Proofs.Ytehkcgjiimfdjaa
