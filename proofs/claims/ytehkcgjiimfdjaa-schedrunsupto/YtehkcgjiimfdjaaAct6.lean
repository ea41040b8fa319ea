/- The contract of do: wait. -/
import Derived.Test.YtehkcgjiimfdjaaAct0
namespace Go.Proofs.Ytehkcgjiimfdjaa
open Go.RowKit
set_option maxRecDepth 100000 in
set_option maxHeartbeats 1000000 in
theorem do_10a {w0 w : World} {p : Nat} {g : Bg} {B : PB} {i bb off : Nat} {x : Ins} (D : DoAt w0 w p g B i bb off x) (hx : x.op = 10) (hph : (B.t i).ph = 0) : Calls Try.prog 27 #[at_ p, at_ (g.q i)] w (DoPost w0 w p g (B.act i)) := by
  have hT := D.ok.tasks i D.lt
  have hok := hT.insOk D.pl
  rw [D.ins] at hok
  have hok2 : isSh x.b = true ∧ isSh x.a = true := by simpa [insOk, hx] using hok
  obtain ⟨b, eb, hb⟩ := sh_of hok2.1
  have hA : B.act i = B.release i (b : Int) 1 := by
    unfold PB.act
    simp only [D.ins, hx, hph, if_pos, eb, if_false, show ¬ (10 : Int) = 1 by decide, show ¬ (10 : Int) = 2 by decide, show ¬ (10 : Int) = 3 by decide, show ¬ (10 : Int) = 4 by decide, show ¬ (10 : Int) = 5 by decide, show ¬ (10 : Int) = 6 by decide, show ¬ (10 : Int) = 7 by decide, show ¬ (10 : Int) = 8 by decide, show ¬ (10 : Int) = 9 by decide]
    try rfl
  rw [hA]
  clear hA
  obtain ⟨c0, c1', c2', c7, cr⟩ := D.bd.tcell D.lt hT.regs
  obtain ⟨b0, b1, b2, b3, b4⟩ := D.bd.bcell D.ok.cells D.ok.own
  have hne := D.bd.ne D.lt
  have hplt := tag_lt D.bd.tagP
  have hqlt := tag_lt (D.bd.tagQ D.lt)
  obtain ⟨bd, ok, lt, pl, ins, c1, c2, i0, i1, i2, i3, hle, hmx, blt, big, wfb, q7⟩ := D
  rw [eb] at i2
  rw [hph] at q7
  rw [hx] at i0
  have hy1 : (0 : Int) ≤ ((B.t i).place : Int) := by omega
  have hy2 : ((B.t i).place : Int) < ((B.t i).code.length : Int) := by omega
  clear c0 c1' c2' c7 cr b0 b1 b2 b3 b4 hok
  go_enter Try.func27, Try.ntmps27
  go_wp2_with fail
  go_region
  go_wp2_with fail
  refine (release_at (bd.alloc _).drew ok lt b hb 1).mono ?_
  rintro _ w8 ⟨rfl, h8, r8⟩
  go_wp2
  go_returns
  exact ⟨rfl, g, h8, rfl, rfl, rfl, (Rest.alloc _ _).drew.trans r8⟩
set_option maxRecDepth 100000 in
set_option maxHeartbeats 1000000 in
theorem do_10b {w0 w : World} {p : Nat} {g : Bg} {B : PB} {i bb off : Nat} {x : Ins} (D : DoAt w0 w p g B i bb off x) (hx : x.op = 10) (hph : (B.t i).ph = 2) : Calls Try.prog 27 #[at_ p, at_ (g.q i)] w (DoPost w0 w p g (B.act i)) := by
  have hT := D.ok.tasks i D.lt
  have hok := hT.insOk D.pl
  rw [D.ins] at hok
  have hok2 : isSh x.b = true ∧ isSh x.a = true := by simpa [insOk, hx] using hok
  obtain ⟨b, eb, hb⟩ := sh_of hok2.1
  have hA : B.act i = ((B.setT i ((B.t i).at 0)).has (b : Int) (some i)).next i ((B.t i).place + 1) := by
    unfold PB.act
    simp only [D.ins, hx, hph, if_pos, eb, if_false, show ¬ (10 : Int) = 1 by decide, show ¬ (10 : Int) = 2 by decide, show ¬ (10 : Int) = 3 by decide, show ¬ (10 : Int) = 4 by decide, show ¬ (10 : Int) = 5 by decide, show ¬ (10 : Int) = 6 by decide, show ¬ (10 : Int) = 7 by decide, show ¬ (10 : Int) = 8 by decide, show ¬ (10 : Int) = 9 by decide, show ¬ (2 : Nat) = 0 by decide]
    try rfl
  rw [hA]
  clear hA
  obtain ⟨c0, c1', c2', c7, cr⟩ := D.bd.tcell D.lt hT.regs
  obtain ⟨b0, b1, b2, b3, b4⟩ := D.bd.bcell D.ok.cells D.ok.own
  have hne := D.bd.ne D.lt
  have hplt := tag_lt D.bd.tagP
  have hqlt := tag_lt (D.bd.tagQ D.lt)
  obtain ⟨bd, ok, lt, pl, ins, c1, c2, i0, i1, i2, i3, hle, hmx, blt, big, wfb, q7⟩ := D
  have rb := b1 b hb
  have sb := bd.bsoft (16 + b)
  have s7 := bd.tsoft lt 7
  rw [eb] at i2
  rw [hph] at q7
  have hx_b1 : (0 : Int) ≤ (b : Int) := by omega
  have hx_b2 : (b : Int) < 16 := by omega
  rw [hx] at i0
  have hy1 : (0 : Int) ≤ ((B.t i).place : Int) := by omega
  have hy2 : ((B.t i).place : Int) < ((B.t i).code.length : Int) := by omega
  clear c0 c1' c2' c7 cr b0 b1 b2 b3 b4 hok
  go_enter Try.func27, Try.ntmps27
  go_wp2_with fail
  go_region
  go_wp2_with fail
  go_region
  go_wp2_with fail
  go_region
  go_wp2_with fail
  have H1 := bd.phase lt hT.regs 0
  have ok1 : (B.setT i ((B.t i).at 0)).Ok := ok.atPh lt (by omega) (.inl rfl)
  have H2 := H1.has ok1 hb (some i)
  have f1 : ((B.setT i ((B.t i).at 0)).has (b : Int) (some i)).ts.length = B.ts.length := by show (B.setT i ((B.t i).at 0)).ts.length = _; rw [setT_len]
  have f2 : ((B.setT i ((B.t i).at 0)).has (b : Int) (some i)).t i = (B.t i).at 0 := by show (B.setT i ((B.t i).at 0)).t i = _; rw [setT_t lt]
  refine (next_at (H2.alloc _).drew.drew.drew (by rw [f1]; exact lt) (by rw [f2]; exact hT.regs) (by rw [f2]; rfl) _ ((B.t i).place + 1) (by omega)).mono ?_
  rintro _ w9 ⟨rfl, h9, r9⟩
  go_wp2
  go_returns
  exact ⟨rfl, g, h9, rfl, rfl, rfl, ((((bd.restT lt _ _).trans (H1.restB _ _)).trans (Rest.alloc _ _)).drew.drew.drew).trans r9⟩
end Go.Proofs.Ytehkcgjiimfdjaa
