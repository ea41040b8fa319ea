/- The contracts of goTo, wants, canGo and state. -/
import Derived.Test.YtehkcgjiimfdjaaBd
import Derived.RegionTactic
namespace Go.Proofs.Ytehkcgjiimfdjaa
open Go.RowKit
section
variable {w0 w : World} {p : Nat} {g : Bg} {B : PB}
theorem regs4 {t : PTask} (h : t.r.length = 4) : ∃ a b c d, t.r = [a, b, c, d] := by
  match t.r, h with
  | [a, b, c, d], _ => exact ⟨a, b, c, d, rfl⟩
theorem BdAt.tcell (h : BdAt w0 w p g B) {i : Nat} (hi : i < B.ts.length) (hr : (B.t i).r.length = 4) :
    w.cell? ⟨g.q i, 0, none⟩ = some (.int .i64 (i : Int)) ∧ w.cell? ⟨g.q i, 1, none⟩ = some (.slice (g.gs.getD i tg0).ca (B.t i).code.length (g.gs.getD i tg0).cc) ∧ w.cell? ⟨g.q i, 2, none⟩ = some (.int .i64 ((B.t i).place : Int)) ∧ w.cell? ⟨g.q i, 7, none⟩ = some (.int .i64 ((B.t i).ph : Int)) ∧ ∀ k, k < 4 → w.cell? ⟨g.q i, 3 + k, none⟩ = some (.int .i64 ((B.t i).r.getD k 0)) := by
  have hb := (h.tasks i hi).box
  have e : ∀ j, w.cell? ⟨g.q i, j, none⟩ = (taskL i (g.gs.getD i tg0) (B.t i))[j]? := fun j => by
    rw [show g.q i = (g.gs.getD i tg0).q from rfl, hb.cell j]
    simp
  obtain ⟨a, b, c, d, hx⟩ := regs4 hr
  refine ⟨by rw [e]; rfl, by rw [e]; rfl, by rw [e]; rfl, by rw [e]; simp [taskL, hx], fun k hk => ?_⟩
  rw [e, hx]
  match k, hk with
  | 0, _ => simp [taskL, hx]
  | 1, _ => simp [taskL, hx]
  | 2, _ => simp [taskL, hx]
  | 3, _ => simp [taskL, hx]
theorem BdAt.tsoft (h : BdAt w0 w p g B) {i : Nat} (hi : i < B.ts.length) (j : Nat) : w.frozen? ⟨g.q i, j, none⟩ = false := (h.tasks i hi).box.soft j
theorem BdAt.bsoft (h : BdAt w0 w p g B) (j : Nat) : w.frozen? ⟨p, j, none⟩ = false := h.box.soft j
theorem BdAt.bcell (h : BdAt w0 w p g B) (hc : B.cells.length = 16) (ho : B.own.length = 16) : (∀ k, k < 16 → w.cell? ⟨p, k, none⟩ = some (.int .i64 (B.cells.getD k 0))) ∧ (∀ k, k < 16 → w.cell? ⟨p, 16 + k, none⟩ = some (ownV g.gs (B.own.getD k none))) ∧ w.cell? ⟨p, 32, none⟩ = some (.slice g.ta B.ts.length g.tc) ∧ w.cell? ⟨p, 33, none⟩ = some (.slice g.ea B.em.length g.ec) ∧ w.cell? ⟨p, 34, none⟩ = some (.int .i64 (B.steps : Int)) := by
  have e : ∀ j, w.cell? ⟨p, j, none⟩ = (boardL B g)[j]? := fun j => by rw [h.box.cell j]; simp
  have lc : (B.cells.map (Value.int .i64)).length = 16 := by simp [hc]
  have lo : (B.own.map (ownV g.gs)).length = 16 := by simp [ho]
  refine ⟨fun k hk => ?_, fun k hk => ?_, ?_, ?_, ?_⟩
  · rw [e, boardL, List.getElem?_append_left (by omega)]
    simp [List.getD, hc, hk]
  · rw [e, boardL, List.getElem?_append_right (by omega), lc, show 16 + k - 16 = k by omega, List.getElem?_append_left (by omega)]
    simp [List.getD, ho, hk]
  · rw [e, boardL, List.getElem?_append_right (by omega), lc, List.getElem?_append_right (by omega), lo]
    rfl
  · rw [e, boardL, List.getElem?_append_right (by omega), lc, List.getElem?_append_right (by omega), lo]
    rfl
  · rw [e, boardL, List.getElem?_append_right (by omega), lc, List.getElem?_append_right (by omega), lo]
    rfl
end
theorem setT_t {B : PB} {i : Nat} (hi : i < B.ts.length) (t : PTask) : (B.setT i t).t i = t := by simp [PB.setT, PB.t, List.getD, hi]
theorem setT_setT (B : PB) (i : Nat) (t u : PTask) : (B.setT i t).setT i u = B.setT i u := by simp [PB.setT]
theorem setT_len (B : PB) (i : Nat) (t : PTask) : (B.setT i t).ts.length = B.ts.length := by simp [PB.setT]
theorem taskL_place (i : Nat) (g : Tg) (t : PTask) (n : Nat) : (taskL i g t).set 2 (.int .i64 (n : Int)) = taskL i g { t with place := n } := rfl
theorem taskL_ph (i : Nat) (g : Tg) (t : PTask) (hr : t.r.length = 4) (n : Nat) : (taskL i g t).set 7 (.int .i64 (n : Int)) = taskL i g (t.at n) := by
  obtain ⟨a, b, c, d, hx⟩ := regs4 hr
  simp [taskL, hx, PTask.at]
theorem taskL_reg (i : Nat) (g : Tg) (t : PTask) (hr : t.r.length = 4) (k : Nat) (hk : k < 4) (v : Int) : (taskL i g t).set (3 + k) (.int .i64 v) = taskL i g (t.reg k v) := by
  obtain ⟨a, b, c, d, hx⟩ := regs4 hr
  match k, hk with
  | 0, _ => simp [taskL, hx, PTask.reg]
  | 1, _ => simp [taskL, hx, PTask.reg]
  | 2, _ => simp [taskL, hx, PTask.reg]
  | 3, _ => simp [taskL, hx, PTask.reg]
section
variable {w0 w : World} {p : Nat} {g : Bg} {B : PB}
theorem BdAt.place (h : BdAt w0 w p g B) {i : Nat} (hi : i < B.ts.length) (n : Nat) : BdAt w0 (w.setCell ⟨g.q i, 2, none⟩ (.int .i64 (n : Int))) p g (B.setT i { B.t i with place := n }) := h.setT hi (taskL_place _ _ _ _) rfl
theorem BdAt.phase (h : BdAt w0 w p g B) {i : Nat} (hi : i < B.ts.length) (hr : (B.t i).r.length = 4) (n : Nat) : BdAt w0 (w.setCell ⟨g.q i, 7, none⟩ (.int .i64 (n : Int))) p g (B.setT i ((B.t i).at n)) := h.setT hi (taskL_ph _ _ _ hr _) rfl
theorem BdAt.reg (h : BdAt w0 w p g B) {i : Nat} (hi : i < B.ts.length) (hr : (B.t i).r.length = 4) (k : Nat) (hk : k < 4) (v : Int) : BdAt w0 (w.setCell ⟨g.q i, 3 + k, none⟩ (.int .i64 v)) p g (B.setT i ((B.t i).reg k v)) := h.setT hi (taskL_reg _ _ _ hr _ hk _) rfl
theorem BdAt.restT (h : BdAt w0 w p g B) {i : Nat} (hi : i < B.ts.length) (j : Nat) (v : Value) : Rest w (w.setCell ⟨g.q i, j, none⟩ v) := Rest.set w (h.tagQ hi) (by decide) j v
theorem BdAt.restB (h : BdAt w0 w p g B) (j : Nat) (v : Value) : Rest w (w.setCell ⟨p, j, none⟩ v) := Rest.set w h.tagP (by decide) j v
end
set_option maxRecDepth 100000 in
set_option maxHeartbeats 1000000 in
theorem goTo_at {w0 w : World} {p : Nat} {g : Bg} {B : PB} (h : BdAt w0 w p g B) {i : Nat} (hi : i < B.ts.length) (hr : (B.t i).r.length = 4) (n : Nat) : Calls Try.prog 25 #[at_ (g.q i), .int .i64 (n : Int)] w fun e w' => e = .returned (.tuple #[]) ∧ BdAt w0 w' p g (B.setT i ((B.t i).goTo n)) ∧ Rest w w' := by
  obtain ⟨c0, c1, c2, c7, cr⟩ := h.tcell hi hr
  have s2 := h.tsoft hi 2
  have s7 := h.tsoft hi 7
  have h1 := h.place hi n
  have r1 := h.restT hi 2 (.int .i64 (n : Int))
  by_cases hl : n = (B.t i).code.length
  · have h2 := h1.phase (i := i) (by rw [setT_len]; exact hi) (by rw [setT_t hi]; exact hr) 3
    have r2 := r1.trans (h1.restT (i := i) (by rw [setT_len]; exact hi) 7 (.int .i64 3))
    rw [setT_t hi, setT_setT] at h2
    have e : ((B.t i).goTo n) = (PTask.at { B.t i with place := n } 3) := by simp [PTask.goTo, PTask.at, hl]
    rw [e]
    have H2 : Hid (BdAt w0 ((w.setCell ⟨g.q i, 2, none⟩ (.int .i64 (n : Int))).setCell ⟨g.q i, 7, none⟩ (.int .i64 3)) p g (B.setT i (PTask.at { B.t i with place := n } 3))) := h2
    have hl' : ((n : Int) == ((B.t i).code.length : Int)) = true := by simp [hl]
    clear h1 h2 hl e
    go_enter Try.func25, Try.ntmps25
    go_wp2
    go_returns
    exact ⟨rfl, H2.out, r2⟩
  · have e : ((B.t i).goTo n) = { B.t i with place := n } := by simp [PTask.goTo, hl]
    have hl' : ((n : Int) == ((B.t i).code.length : Int)) = false := by simp; omega
    rw [e]
    clear hl e
    go_enter Try.func25, Try.ntmps25
    go_wp2
    go_returns
    exact ⟨rfl, h1, r1⟩
def PTask.wantV (t : PTask) : Int × Bool := if t.ph = 2 then (t.ins.b, true) else if t.ins.op = 8 then (t.ins.a, true) else (0, false)
set_option maxRecDepth 100000 in
set_option maxHeartbeats 1000000 in
theorem wants_at {w0 w : World} {p : Nat} {g : Bg} {B : PB} (h : BdAt w0 w p g B) {i : Nat} (hi : i < B.ts.length) (hk : (B.t i).Ok) (hp : (B.t i).place < (B.t i).code.length) : Calls Try.prog 41 #[at_ (g.q i)] w fun e w' => e = .returned (.tuple #[.int .i64 (B.t i).wantV.1, .bool (B.t i).wantV.2]) ∧ Below w.heap.size w w' := by
  obtain ⟨c0, c1, c2, c7, cr⟩ := h.tcell hi hk.regs
  have hI := h.codeAt hi
  have hle := hI.le
  have hmx := hI.max
  unfold maxLen at hmx
  obtain ⟨b, off, hca, hc⟩ := hI.here (by omega)
  obtain ⟨i0, i1, i2, i3⟩ := hc _ hp
  rw [hca] at c1
  have e1 : (B.t i).code.getD (B.t i).place ins0 = (B.t i).ins := rfl
  rw [e1] at i0 i1 i2 i3
  have hqlt := tag_lt (h.tagQ hi)
  have hblt := World.block_lt_of_cell? w _ i0
  simp only at hblt
  clear hI hca hc e1 c0 cr
  have hcod := hk.code
  clear hk
  generalize B.t i = t at *
  generalize (g.gs.getD i tg0).cc = cc at *
  unfold PTask.wantV
  generalize t.ins = x at *
  generalize t.place = pl at *
  generalize t.code.length = cl at *
  have hx1 : (0 : Int) ≤ (pl : Int) := by omega
  have hx2 : (pl : Int) < (cl : Int) := by omega
  by_cases h2 : t.ph = 2
  · rw [if_pos h2]
    rw [h2] at c7
    clear h2
    go_enter Try.func41, Try.ntmps41
    go_wp2
    go_region
    go_wp2
    go_returns
    exact ⟨rfl, ((Below.refl _ _).alloc (Nat.le_refl _) _).drew⟩
  · rw [if_neg h2]
    have h2' : ((t.ph : Int) == 2) = false := by simp; omega
    by_cases h8 : x.op = 8
    · rw [if_pos h8]
      rw [h8] at i0
      clear h2
      go_enter Try.func41, Try.ntmps41
      go_wp2
      go_region
      go_wp2
      go_returns
      exact ⟨rfl, ((Below.refl _ _).alloc (Nat.le_refl _) _).drew⟩
    · rw [if_neg h8]
      clear h2
      go_enter Try.func41, Try.ntmps41
      go_wp2
      go_region
      go_wp2
      go_returns
      exact ⟨rfl, ((Below.refl _ _).alloc (Nat.le_refl _) _).drew⟩
end Go.Proofs.Ytehkcgjiimfdjaa
