/- The contract of do: emit. -/
import Derived.Test.YtehkcgjiimfdjaaAct0
import Derived.Test.YtehkcgjiimfdjaaEmit5
namespace Go.Proofs.Ytehkcgjiimfdjaa
open Go.RowKit
set_option maxRecDepth 100000 in
set_option maxHeartbeats 16000000 in
theorem do_13 {w0 w : World} {p : Nat} {g : Bg} {B : PB} {i bb off : Nat} {x : Ins} (D : DoAt w0 w p g B i bb off x) (hx : x.op = 13) (hph : (B.t i).ph = 0) (hem : B.em.length < 1099511627776) : Calls Try.prog 27 #[at_ p, at_ (g.q i)] w (DoPost w0 w p g (B.act i)) := by
  have hT := D.ok.tasks i D.lt
  have hok := hT.insOk D.pl
  rw [D.ins] at hok
  have hok2 : isReg x.a = true := by simpa [insOk, hx] using hok
  obtain ⟨a, ea, ha⟩ := reg_of hok2
  have hA : B.act i = ({ B with em := B.em ++ [(i, (B.t i).r.getD a 0)] } : PB).next i ((B.t i).place + 1) := by
    unfold PB.act
    simp only [D.ins, hx, if_pos, ea, if_false, show ¬ (13 : Int) = 1 by decide, show ¬ (13 : Int) = 2 by decide, show ¬ (13 : Int) = 3 by decide, show ¬ (13 : Int) = 4 by decide, show ¬ (13 : Int) = 5 by decide, show ¬ (13 : Int) = 6 by decide, show ¬ (13 : Int) = 7 by decide, show ¬ (13 : Int) = 8 by decide, show ¬ (13 : Int) = 9 by decide, show ¬ (13 : Int) = 10 by decide, show ¬ (13 : Int) = 11 by decide, show ¬ (13 : Int) = 12 by decide]
    try rfl
  rw [hA]
  clear hA
  obtain ⟨c0, c1', c2', c7, cr⟩ := D.bd.tcell D.lt hT.regs
  obtain ⟨b0, b1, b2, b3, b4⟩ := D.bd.bcell D.ok.cells D.ok.own
  have hne := D.bd.ne D.lt
  have hplt := tag_lt D.bd.tagP
  have hqlt := tag_lt (D.bd.tagQ D.lt)
  obtain ⟨bd, ok, lt, pl, ins, c1, c2, i0, i1, i2, i3, hle, hmx, blt, big, wfb, q7⟩ := D
  have ra := cr a ha
  have rn := c0
  have re := b3
  have s33 := bd.bsoft 33
  rw [ea] at i1
  rw [hph] at q7
  have hx_a1 : (0 : Int) ≤ (a : Int) := by omega
  have hx_a2 : (a : Int) < 4 := by omega
  generalize (B.t i).r.getD a 0 = v at *
  rw [hx] at i0
  have hy1 : (0 : Int) ≤ ((B.t i).place : Int) := by omega
  have hy2 : ((B.t i).place : Int) < ((B.t i).code.length : Int) := by omega
  clear c0 c1' c2' c7 cr b0 b1 b2 b3 b4 hok
  go_enter Try.func27, Try.ntmps27
  go_wp2_with fail
  go_region
  go_wp2_with fail
  have HBX : ∀ o : Obj, Box ((w.alloc o).alloc (.cells #[.int .i64 (i : Int), .int .i64 v] 34)).drew.drew (w.heap.size + 1) 34 #[.int .i64 (i : Int), .int .i64 v] := fun o => by
    have := Box.new (w.alloc o) 34 #[.int .i64 (i : Int), .int .i64 v]
    rw [show (w.alloc o).heap.size = w.heap.size + 1 by simp] at this
    exact this
  have HR2 : ∀ o o2 : Obj, Rest w ((w.alloc o).alloc o2).drew.drew := fun o o2 => ((Rest.alloc w o).trans (Rest.alloc _ o2)).drew.drew
  have HB2 : ∀ o o2 : Obj, BdAt w0 ((w.alloc o).alloc o2).drew.drew p g B := fun o o2 => ((bd.alloc o).alloc o2).drew.drew
  have HX : Hid (∀ o : Obj, Box ((w.alloc o).alloc (.cells #[.int .i64 (i : Int), .int .i64 v] 34)).drew.drew (w.heap.size + 1) 34 #[.int .i64 (i : Int), .int .i64 v]) := HBX
  have HR : Hid (∀ o o2 : Obj, Rest w ((w.alloc o).alloc o2).drew.drew) := HR2
  have HB : Hid (∀ o o2 : Obj, BdAt w0 ((w.alloc o).alloc o2).drew.drew p g B) := HB2
  have HQ7 : Hid (∀ o o2 : Obj, ((w.alloc o).alloc o2).drew.drew.cell? ⟨g.q i, 7, none⟩ = some (.int .i64 ((0 : Nat) : Int))) := fun o o2 => by
    have := ((HB2 o o2).tcell lt hT.regs).2.2.2.1
    rw [hph] at this
    exact this
  clear HBX HR2 HB2
  go_region_law (first
    | (refine step_emit rfl (.tmp 144) (.tmp 157) rfl (g := g) (B := B) (HB.out _ _) ok i v (by simp [Act.eval]) (w.heap.size + 1) (by simp [Act.eval]) (HX.out _) hem ?_
       intro ea ec w4 h4
       have z0 := h4.cell
       have z1 := h4.soft
       have z2 : w4.cell? ⟨g.q i, 7, none⟩ = some (.int .i64 ((0 : Nat) : Int)) := (World.cell?_of_block (h4.same i lt)).trans (HQ7.out _ _)
       have H4 : Hid (Emitted w0 _ w4 p g B i v ea ec) := h4
       clear h4))
  all_goals
    go_wp2_with fail
    refine (next_at H4.out.fin lt hT.regs hph _ ((B.t i).place + 1) (by omega)).mono ?_
    rintro _ w9 ⟨rfl, h9, r9⟩
    go_wp2
    go_returns
    exact ⟨rfl, _, h9, rfl, rfl, rfl, ((HR.out _ _).trans H4.out.rest).trans r9⟩
end Go.Proofs.Ytehkcgjiimfdjaa
