/- The contract of begin: what every change does ahead of all else. -/
import Derived.Test.YtkelahekfkhcfaaFsBox
namespace Go.Proofs.Ytkelahekfkhcfaa
open Go.RowKit
def FsC.ask (c : FsC) : FsC × Int :=
  if (c.fs && (c.fn == 0)) = true then ({ c with o := c.o + 1 }, 44)
  else if (c.ss && (c.sn == 0)) = true then ({ c with o := c.o + 1, fn := if c.fs then c.fn - 1 else c.fn, ss := false, sn := 0 }, 45)
  else ({ c with o := c.o + 1, fn := if c.fs then c.fn - 1 else c.fn, sn := if c.ss then c.sn - 1 else c.sn }, 0)
set_option maxRecDepth 100000 in
theorem over_any (w : World) (b : Bool) (n : Int) : Calls Try.prog 62 #[.agg #[.bool b, .int .i64 n]] w fun e w' => e = .returned (.bool (b && (n == 0))) ∧ w' = w.alloc (.cells #[.bool b, .int .i64 n] 59) := by
  cases b
  · go_enter Try.func62, Try.ntmps62
    go_wp2
    go_ret
    exact ⟨rfl, rfl⟩
  · go_enter Try.func62, Try.ntmps62
    go_wp2
    go_ret
    exact ⟨rfl, rfl⟩
set_option maxRecDepth 100000 in
theorem step_any (w : World) (p j : Nat) (b : Bool) (n : Int) (h0 : w.cell? ⟨p, j, none⟩ = some (.bool b)) (h1 : w.cell? ⟨p, j + 1, none⟩ = some (.int .i64 n)) (hf : w.frozen? ⟨p, j + 1, none⟩ = false) (hn : -9223372036854775807 ≤ n ∧ n ≤ 9223372036854775807) :
    Calls Try.prog 63 #[.pointer (some ⟨p, j, none⟩)] w fun e w' => e = .returned (.tuple #[]) ∧ w' = if b then w.setCell ⟨p, j + 1, none⟩ (.int .i64 (n - 1)) else w := by
  cases b
  · go_enter Try.func63, Try.ntmps63
    go_wp2
    go_returns
    exact ⟨rfl, rfl⟩
  · go_enter Try.func63, Try.ntmps63
    go_wp2
    go_returns
    exact ⟨rfl, rfl⟩
set_option maxRecDepth 100000 in
set_option maxHeartbeats 1000000 in
theorem begin_any (w : World) (p : Nat) (c : FsC) (h : FsB w p c) (ho : 0 ≤ c.o ∧ c.o ≤ 2000000) (hf : 0 ≤ c.fn ∧ c.fn ≤ 9223372036854775807) (hs : 0 ≤ c.sn ∧ c.sn ≤ 9223372036854775807) :
    Calls Try.prog 45 #[at_ p] w fun e w' => e = .returned (.int .i64 c.ask.2) ∧ FsB w' p c.ask.1 ∧ w.grownBy w' (some p) := by
  obtain ⟨c0, c1, c2, c3, c4, c5, c6, c7, c8, c9⟩ := h.cells
  have f2 := Box.soft h 2
  have f4 := Box.soft h 4
  have f5 := Box.soft h 5
  have f6 := Box.soft h 6
  have hlt := Box.lt h
  obtain ⟨q, u, o, fs, fn, ss, sn, mn, ml, sa, sl, sc⟩ := c
  simp only at c0 c1 c2 c3 c4 c5 c6 c7 c8 c9 ho hf hs
  cases fs <;> cases ss
  all_goals
    go_enter Try.func45, Try.ntmps45
    go_wp2
  all_goals go_returns
  all_goals
    refine ⟨ret1 ?_, ?_, ?_⟩
    · simp [FsC.ask, *]
    · apply Box.eq
      · repeat (first | with_reducible apply Box.alloc | with_reducible apply Box.set)
        exact h
      · simp [FsC.ask, FsC.arr, *]
    · repeat (first | with_reducible apply grown_alloc | with_reducible apply grown_set)
      exact World.grownBy.refl _ _
end Go.Proofs.Ytkelahekfkhcfaa
