/- The contract of do: signal and broadcast. -/
import Derived.Test.YtehkcgjiimfdjaaAct0
namespace Go.Proofs.Ytehkcgjiimfdjaa
open Go.RowKit
set_option maxRecDepth 100000 in
set_option maxHeartbeats 1000000 in
theorem do_11 {w0 w : World} {p : Nat} {g : Bg} {B : PB} {i bb off : Nat} {x : Ins} (D : DoAt w0 w p g B i bb off x) (hx : x.op = 11) (hph : (B.t i).ph = 0) : Calls Try.prog 27 #[at_ p, at_ (g.q i)] w (DoPost w0 w p g (B.act i)) := by
  have hT := D.ok.tasks i D.lt
  have hok := hT.insOk D.pl
  rw [D.ins] at hok
  have hok2 : isSh x.a = true := by simpa [insOk, hx] using hok
  obtain ⟨B8, eB⟩ : ∃ B8 : PB, B8 = { B with ts := tellL x.a false B.ts } := ⟨_, rfl⟩
  have et : B8.t i = B.t i := by rw [eB]; exact tellL_at _ _ _ _ (by show (B.t i).ph ≠ 1; omega)
  have el : B8.ts.length = B.ts.length := by rw [eB]; exact tellL_length _ _ _
  have hA : B.act i = B8.next i ((B.t i).place + 1) := by
    unfold PB.act
    simp only [D.ins, hx, if_pos, if_false, show ¬ (11 : Int) = 1 by decide, show ¬ (11 : Int) = 2 by decide, show ¬ (11 : Int) = 3 by decide, show ¬ (11 : Int) = 4 by decide, show ¬ (11 : Int) = 5 by decide, show ¬ (11 : Int) = 6 by decide, show ¬ (11 : Int) = 7 by decide, show ¬ (11 : Int) = 8 by decide, show ¬ (11 : Int) = 9 by decide, show ¬ (11 : Int) = 10 by decide]
    rw [eB]
  rw [hA]
  clear hA
  obtain ⟨c0, c1', c2', c7, cr⟩ := D.bd.tcell D.lt hT.regs
  obtain ⟨b0, b1, b2, b3, b4⟩ := D.bd.bcell D.ok.cells D.ok.own
  have hne := D.bd.ne D.lt
  have hplt := tag_lt D.bd.tagP
  have hqlt := tag_lt (D.bd.tagQ D.lt)
  obtain ⟨bd, ok, lt, pl, ins, c1, c2, i0, i1, i2, i3, hle, hmx, blt, big, wfb, q7⟩ := D
  rw [hph] at q7
  have HX : Hid (B8 = { B with ts := tellL x.a false B.ts }) := eB
  clear eB
  rw [hx] at i0
  have hy1 : (0 : Int) ≤ ((B.t i).place : Int) := by omega
  have hy2 : ((B.t i).place : Int) < ((B.t i).code.length : Int) := by omega
  clear c0 c1' c2' c7 cr b0 b1 b2 b3 b4 hok
  go_enter Try.func27, Try.ntmps27
  go_wp2_with fail
  go_region
  go_wp2_with fail
  refine (tell_at (bd.alloc _).drew ok 11 x.a x.b x.c false (by decide)).mono ?_
  rintro _ w8 ⟨rfl, h8, r8⟩
  rw [← HX.out] at h8
  obtain ⟨_, _, _, k7, _⟩ := h8.tcell (i := i) (by rw [el]; exact lt) (by rw [et]; exact hT.regs)
  rw [et, hph] at k7
  have f2 := congrArg PTask.r et
  have f3 := congrArg PTask.ph et
  clear et
  go_wp2_with fail
  refine (next_at h8 (by rw [el]; exact lt) (by rw [f2]; exact hT.regs) (by rw [f3]; exact hph) _ ((B.t i).place + 1) (by omega)).mono ?_
  rintro _ w9 ⟨rfl, h9, r9⟩
  go_wp2
  go_returns
  exact ⟨rfl, g, h9, rfl, rfl, rfl, ((Rest.alloc _ _).drew.trans r8).trans r9⟩
set_option maxRecDepth 100000 in
set_option maxHeartbeats 1000000 in
theorem do_12 {w0 w : World} {p : Nat} {g : Bg} {B : PB} {i bb off : Nat} {x : Ins} (D : DoAt w0 w p g B i bb off x) (hx : x.op = 12) (hph : (B.t i).ph = 0) : Calls Try.prog 27 #[at_ p, at_ (g.q i)] w (DoPost w0 w p g (B.act i)) := by
  have hT := D.ok.tasks i D.lt
  have hok := hT.insOk D.pl
  rw [D.ins] at hok
  have hok2 : isSh x.a = true := by simpa [insOk, hx] using hok
  obtain ⟨B8, eB⟩ : ∃ B8 : PB, B8 = { B with ts := tellL x.a true B.ts } := ⟨_, rfl⟩
  have et : B8.t i = B.t i := by rw [eB]; exact tellL_at _ _ _ _ (by show (B.t i).ph ≠ 1; omega)
  have el : B8.ts.length = B.ts.length := by rw [eB]; exact tellL_length _ _ _
  have hA : B.act i = B8.next i ((B.t i).place + 1) := by
    unfold PB.act
    simp only [D.ins, hx, if_pos, if_false, show ¬ (12 : Int) = 1 by decide, show ¬ (12 : Int) = 2 by decide, show ¬ (12 : Int) = 3 by decide, show ¬ (12 : Int) = 4 by decide, show ¬ (12 : Int) = 5 by decide, show ¬ (12 : Int) = 6 by decide, show ¬ (12 : Int) = 7 by decide, show ¬ (12 : Int) = 8 by decide, show ¬ (12 : Int) = 9 by decide, show ¬ (12 : Int) = 10 by decide, show ¬ (12 : Int) = 11 by decide]
    rw [eB]
  rw [hA]
  clear hA
  obtain ⟨c0, c1', c2', c7, cr⟩ := D.bd.tcell D.lt hT.regs
  obtain ⟨b0, b1, b2, b3, b4⟩ := D.bd.bcell D.ok.cells D.ok.own
  have hne := D.bd.ne D.lt
  have hplt := tag_lt D.bd.tagP
  have hqlt := tag_lt (D.bd.tagQ D.lt)
  obtain ⟨bd, ok, lt, pl, ins, c1, c2, i0, i1, i2, i3, hle, hmx, blt, big, wfb, q7⟩ := D
  rw [hph] at q7
  have HX : Hid (B8 = { B with ts := tellL x.a true B.ts }) := eB
  clear eB
  rw [hx] at i0
  have hy1 : (0 : Int) ≤ ((B.t i).place : Int) := by omega
  have hy2 : ((B.t i).place : Int) < ((B.t i).code.length : Int) := by omega
  clear c0 c1' c2' c7 cr b0 b1 b2 b3 b4 hok
  go_enter Try.func27, Try.ntmps27
  go_wp2_with fail
  go_region
  go_wp2_with fail
  refine (tell_at (bd.alloc _).drew ok 12 x.a x.b x.c true (by decide)).mono ?_
  rintro _ w8 ⟨rfl, h8, r8⟩
  rw [← HX.out] at h8
  obtain ⟨_, _, _, k7, _⟩ := h8.tcell (i := i) (by rw [el]; exact lt) (by rw [et]; exact hT.regs)
  rw [et, hph] at k7
  have f2 := congrArg PTask.r et
  have f3 := congrArg PTask.ph et
  clear et
  go_wp2_with fail
  refine (next_at h8 (by rw [el]; exact lt) (by rw [f2]; exact hT.regs) (by rw [f3]; exact hph) _ ((B.t i).place + 1) (by omega)).mono ?_
  rintro _ w9 ⟨rfl, h9, r9⟩
  go_wp2
  go_returns
  exact ⟨rfl, g, h9, rfl, rfl, rfl, ((Rest.alloc _ _).drew.trans r8).trans r9⟩
end Go.Proofs.Ytehkcgjiimfdjaa
