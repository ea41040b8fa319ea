/- What a walk of do needs. -/
import Derived.Test.YtehkcgjiimfdjaaTell5
namespace Go.Proofs.Ytehkcgjiimfdjaa
open Go.RowKit
/-- Board at a world, with all that a walk of do reads. -/
structure DoAt (w0 w : World) (p : Nat) (g : Bg) (B : PB) (i : Nat) (bb off : Nat) (x : Ins) : Prop where
  bd : BdAt w0 w p g B
  ok : B.Ok
  lt : i < B.ts.length
  pl : (B.t i).place < (B.t i).code.length
  ins : (B.t i).ins = x
  c1 : w.cell? ⟨g.q i, 1, none⟩ = some (.slice (some ⟨bb, off, none⟩) (B.t i).code.length (g.gs.getD i tg0).cc)
  c2 : w.cell? ⟨g.q i, 2, none⟩ = some (.int .i64 ((B.t i).place : Int))
  i0 : w.cell? ⟨bb, off + (B.t i).place * 4, none⟩ = some (.int .i64 x.op)
  i1 : w.cell? ⟨bb, off + (B.t i).place * 4 + 1, none⟩ = some (.int .i64 x.a)
  i2 : w.cell? ⟨bb, off + (B.t i).place * 4 + 2, none⟩ = some (.int .i64 x.b)
  i3 : w.cell? ⟨bb, off + (B.t i).place * 4 + 3, none⟩ = some (.int .i64 x.c)
  hle : (B.t i).code.length ≤ (g.gs.getD i tg0).cc
  hmx : (g.gs.getD i tg0).cc ≤ 2 ^ 63 - 1
  blt : bb < w.heap.size
  big : (B.t i).place ≤ 64
  wfb : in64 x.b
  q7 : w.cell? ⟨g.q i, 7, none⟩ = some (.int .i64 ((B.t i).ph : Int))
theorem DoAt.mk' {w0 w : World} {p : Nat} {g : Bg} {B : PB} (h : BdAt w0 w p g B) (hk : B.Ok) {i : Nat} (hi : i < B.ts.length) (hp : (B.t i).place < (B.t i).code.length) : ∃ bb off, DoAt w0 w p g B i bb off (B.t i).ins := by
  have hT := hk.tasks i hi
  obtain ⟨c0, c1, c2, c7, cr⟩ := h.tcell hi hT.regs
  have hI := h.codeAt hi
  have hmx := hI.max
  unfold maxLen at hmx
  obtain ⟨b, off, hca, hc⟩ := hI.here (by omega)
  obtain ⟨i0, i1, i2, i3⟩ := hc _ hp
  rw [hca] at c1
  exact ⟨b, off, h, hk, hi, hp, rfl, c1, c2, i0, i1, i2, i3, hI.le, hmx, World.block_lt_of_cell? w _ i0, hT.max, (hI.wf _ hp).2.2.1, c7⟩
abbrev DoPost (w0 w : World) (p : Nat) (g : Bg) (B' : PB) (e : Ending) (w' : World) : Prop := e = .returned (.tuple #[]) ∧ ∃ g', BdAt w0 w' p g' B' ∧ g'.gs = g.gs ∧ g'.ta = g.ta ∧ g'.tc = g.tc ∧ Rest w w'
theorem next_at {w0 w : World} {p : Nat} {g : Bg} {B : PB} (h : BdAt w0 w p g B) {i : Nat} (hi : i < B.ts.length) (hr : (B.t i).r.length = 4) (hph : (B.t i).ph = 0) (m : Int) (n : Nat) (hm : m = (n : Int)) : Calls Try.prog 25 #[at_ (g.q i), .int .i64 m] w fun e w' => e = .returned (.tuple #[]) ∧ BdAt w0 w' p g (B.next i n) ∧ Rest w w' := by
  subst hm
  unfold PB.next
  rw [if_pos hph]
  exact goTo_at h hi hr n
theorem reg_len (t : PTask) (k : Nat) (v : Int) : (t.reg k v).r.length = t.r.length := by simp [PTask.reg]
theorem wrap64_in {n : Int} (h : in64 n) : wrap64 n = n := by
  unfold in64 at h
  unfold wrap64
  omega
theorem reg_reg (t : PTask) (k : Nat) (u v : Int) : (t.reg k u).reg k v = t.reg k v := by simp [PTask.reg]
theorem swap_facts {B : PB} {i : Nat} (hi : i < B.ts.length) (x : Ins) : (B.swap i x).ts.length = B.ts.length ∧ ((B.swap i x).t i).r.length = (B.t i).r.length ∧ ((B.swap i x).t i).ph = (B.t i).ph := by
  unfold PB.swap
  split
  · have e : (B.put x.a ((B.t i).get x.c)).ts = B.ts := rfl
    refine ⟨by rw [setT_len, e], ?_, ?_⟩
    · rw [setT_t (by rw [e]; exact hi)]
      exact reg_len _ _ _
    · rw [setT_t (by rw [e]; exact hi)]
      rfl
  · refine ⟨by rw [setT_len], ?_, ?_⟩
    · rw [setT_t hi]
      exact reg_len _ _ _
    · rw [setT_t hi]
      rfl
theorem release_facts {B : PB} {i : Nat} (hi : i < B.ts.length) (m : Int) (ph : Nat) : (B.release i m ph).ts.length = B.ts.length ∧ ((B.release i m ph).t i).r.length = (B.t i).r.length ∧ (((B.release i m ph).t i).ph = ph ∨ ((B.release i m ph).t i).ph = 4) := by
  unfold PB.release
  split
  · have e : (B.has m none).ts = B.ts := rfl
    refine ⟨by rw [setT_len, e], ?_, .inl ?_⟩
    · rw [setT_t (by rw [e]; exact hi)]
      rfl
    · rw [setT_t (by rw [e]; exact hi)]
      rfl
  · refine ⟨by rw [setT_len], ?_, .inr ?_⟩
    · rw [setT_t hi]
      rfl
    · rw [setT_t hi]
      rfl
theorem tellL_length (c : Int) (all : Bool) : ∀ l, (tellL c all l).length = l.length
  | [] => rfl
  | t :: r => by
    unfold tellL
    split
    · cases all
      · rfl
      · simp [tellL_length c true r]
    · simp [tellL_length c all r]
/-- Who does not wait is as it was. -/
theorem tellL_at (c : Int) (all : Bool) : ∀ (l : List PTask) (i : Nat), (l.getD i task0).ph ≠ 1 → (tellL c all l).getD i task0 = l.getD i task0
  | [], i, _ => rfl
  | t :: r, 0, h => by
    unfold tellL
    rw [if_neg (fun e => h e.1)]
    rfl
  | t :: r, i + 1, h => by
    have ih := tellL_at c all r i (by simpa [List.getD] using h)
    unfold tellL
    split
    · cases all
      · rfl
      · simpa [List.getD] using ih
    · simpa [List.getD] using ih
theorem PB.Ok.setTask {B : PB} (h : B.Ok) {i : Nat} (hi : i < B.ts.length) {t : PTask} (ht : t.Ok) : (B.setT i t).Ok := by
  refine ⟨h.cells, h.own, by rw [setT_len]; exact h.many, fun k hk => ?_, fun m k hm => by rw [setT_len]; exact h.owns m k hm⟩
  rw [setT_len] at hk
  by_cases e : i = k
  · subst e
    rw [setT_t hi]
    exact ht
  · have e1 : (B.setT i t).t k = B.t k := by simp [PB.setT, PB.t, List.getD, e]
    rw [e1]
    exact h.tasks k hk
theorem PTask.Ok.atPh {t : PTask} (h : t.Ok) {ph : Nat} (hp : t.ph < 3) (hl : ph = 0 ∨ 3 ≤ ph ∧ ph ≤ 4 ∨ ph ≤ 2 ∧ t.ins.op = 10) : (t.at ph).Ok :=
  ⟨h.code, h.regs, by show ph ≤ 4; omega, fun _ => h.place hp, fun e => by
    have e' : ph = 1 ∨ ph = 2 := e
    show t.ins.op = 10
    omega, h.max⟩
theorem PB.Ok.atPh {B : PB} (h : B.Ok) {i ph : Nat} (hi : i < B.ts.length) (hp : (B.t i).ph < 3) (hl : ph = 0 ∨ 3 ≤ ph ∧ ph ≤ 4 ∨ ph ≤ 2 ∧ (B.t i).ins.op = 10) : (B.setT i ((B.t i).at ph)).Ok := h.setTask hi ((h.tasks i hi).atPh hp hl)
end Go.Proofs.Ytehkcgjiimfdjaa
