/- The contract of the statements' own awake: it returns true and leaves memory as it was. -/
import Derived.Test.YtdhfimolgcnejaaW9Read
namespace Go.Proofs.Ytdhfimolgcnejaa
open Go.RowKit

def log9 : List UInt8 := [164, 152, 68, 130, 2, 0, 1, 97, 98]
def log16 : List UInt8 := [234, 117, 61, 81, 1, 0, 2, 97, 5, 105, 185, 141, 1, 0, 4, 98]
theorem putP_0 : putP 0 true [97, 98] = log9 := by decide +kernel
theorem putP_120 : putP 120 true [97, 98] = log16 := by decide +kernel
theorem walRead_9 : walRead log9 = ([[97, 98]], 9, 0) := by decide +kernel
theorem pcs_9 : (pcs log9 0).length = 1 := by decide +kernel
theorem put_ab0 (a : Option Addr) (cap : Nat) (w : World) (h : BsAt w a 2 cap [97, 98]) :
    Calls Try.prog 10 #[.int .i64 0, .slice a 2 cap] w fun e w' => ∃ g c', e = .returned (.tuple #[.slice (some ⟨g, 0, none⟩) 9 c', .int .i64 0]) ∧ BsAt w' (some ⟨g, 0, none⟩) 9 c' log9 ∧ w'.cell? ⟨g, 6, none⟩ = some (.int .u8 1) ∧ w'.cell? ⟨g, 8, none⟩ = some (.int .u8 98) ∧ g < w'.heap.size ∧ Below w.heap.size w w' := by
  refine (put_at 0 a 2 cap _ w h (by omega) (by omega)).mono ?_
  rintro e w' ⟨a', c', rfl, ho, hb⟩
  rw [putP_0] at ho ⊢
  obtain ⟨g, rfl, _, hg, hc⟩ := ho.cells (by decide)
  exact ⟨g, c', rfl, ho.bs, hc 6 (by decide), hc 8 (by decide), hg, hb⟩
theorem put_ab120 (a : Option Addr) (cap : Nat) (w : World) (h : BsAt w a 2 cap [97, 98]) :
    Calls Try.prog 10 #[.int .i64 120, .slice a 2 cap] w fun e w' => ∃ g c', e = .returned (.tuple #[.slice (some ⟨g, 0, none⟩) 16 c', .int .i64 0]) ∧ w'.cell? ⟨g, 6, none⟩ = some (.int .u8 2) ∧ w'.cell? ⟨g, 14, none⟩ = some (.int .u8 4) ∧ g < w'.heap.size ∧ Below w.heap.size w w' := by
  refine (put_at 120 a 2 cap _ w h (by omega) (by omega)).mono ?_
  rintro e w' ⟨a', c', rfl, ho, hb⟩
  rw [putP_120] at ho ⊢
  obtain ⟨g, rfl, _, hg, hc⟩ := ho.cells (by decide)
  exact ⟨g, c', rfl, hc 6 (by decide), hc 14 (by decide), hg, hb⟩
theorem read_9 (a : Option Addr) (cap : Nat) (w : World) (h : BsAt w a 9 cap log9) :
    Calls Try.prog 12 #[.slice a 9 cap] w fun e w' => ∃ g rc aj cj, e = .returned (.tuple #[.slice (some ⟨g, 0, none⟩) 1 rc, .int .i64 9, .int .i64 0]) ∧ w'.cell? ⟨g, 0, none⟩ = some (.slice aj 2 cj) ∧ (convert 23 9 (.slice aj 2 cj)).run Try.prog w' = .ok (.string ⟨#[97, 98]⟩) w' ∧ Below w.heap.size w w' := by
  refine (read_any a 9 cap log9 w h (by omega) (by rw [pcs_9]; omega)).mono ?_
  rintro e w' ⟨ra, rc, rfl, ho, hb⟩
  rw [walRead_9] at ho ⊢
  obtain ⟨vs, hr, hj⟩ := ho.rows
  obtain ⟨M, aj, cj, e, hbj, _⟩ := hj 0 (by decide)
  rcases hr.2 with ⟨hv, hn⟩ | ⟨g, c, cur, hv, hb', hg, hn, hc, hz, ht⟩
  · cases hn
  · simp only [Value.slice.injEq] at hv
    obtain ⟨rfl, _, rfl⟩ := hv
    refine ⟨g, rc, aj, cj, rfl, ?_, conv_of hbj.bs, hb⟩
    rw [hr.cellAt 0 (by decide)]
    have hvl : vs.length = 1 := by simpa using hr.1
    rw [show vs[0]? = some (vs.getD 0 undef) by simp [List.getD, hvl], e]
    rfl
set_option maxRecDepth 100000 in
set_option maxHeartbeats 2000000 in
theorem awake_any (w : World) : Calls Try.prog 9 #[] w fun e w' => e = .returned (.bool true) ∧ Below w.heap.size w w' := by
  have hcv := run_conv_lit
  go_enter Try.func9, Try.ntmps9
  go_wp2_with fail
  refine Calls.mono (put_ab0 _ _ _ ?hlit) ?_
  case hlit => exact BsAt.litAt _ _ _ _ _ 2 _ (by simp) rfl rfl (by decide)
  rintro e w1 ⟨g, c, rfl, hbs, hc6, hc8, hg, hb1⟩
  have HB1 : Hid (Below w.heap.size w w1) := ((Below.refl _ w).alloc (Nat.le_refl _) _).trans (hb1.mono (by simp))
  have HBS : Hid (BsAt w1 (some ⟨g, 0, none⟩) 9 c log9) := hbs
  have HC : Hid (w1.cell? ⟨g, 6, none⟩ = some (.int .u8 1) ∧ w1.cell? ⟨g, 8, none⟩ = some (.int .u8 98)) := ⟨hc6, hc8⟩
  clear hb1 hbs hc6 hc8
  go_wp2_with fail
  refine Calls.mono (put_ab120 _ _ _ ?hlit) ?_
  case hlit => exact BsAt.litAt _ _ _ _ _ 2 _ (by simp) rfl rfl (by decide)
  rintro e w2 ⟨g2, c2, rfl, hc6, hc14, hg2, hb2⟩
  have hb2 : Below w1.heap.size w1 w2 := ((Below.refl _ w1).alloc (Nat.le_refl _) _).trans (hb2.mono (by simp))
  have HB2 : Hid (Below w1.heap.size w1 w2) := hb2
  have HBS2 : Hid (BsAt w2 (some ⟨g, 0, none⟩) 9 c log9) := HBS.out.below (Nat.le_refl _) hb2
  have HC2 : Hid (w2.cell? ⟨g2, 6, none⟩ = some (.int .u8 2) ∧ w2.cell? ⟨g2, 14, none⟩ = some (.int .u8 4)) := ⟨hc6, hc14⟩
  clear hb2 hc6 hc14
  go_wp2_with fail
  refine Calls.mono (read_9 _ _ _ HBS2.out) ?_
  rintro e w3 ⟨g3, rc, aj, cj, rfl, hl0, hcs, hb3⟩
  have y6 : w3.cell? ⟨g, 6, none⟩ = some (.int .u8 1) := by rw [hb3.cell (Nat.lt_of_lt_of_le hg HB2.out.size), HB2.out.cell hg]; exact HC.out.1
  have y8 : w3.cell? ⟨g, 8, none⟩ = some (.int .u8 98) := by rw [hb3.cell (Nat.lt_of_lt_of_le hg HB2.out.size), HB2.out.cell hg]; exact HC.out.2
  have z6 : w3.cell? ⟨g2, 6, none⟩ = some (.int .u8 2) := by rw [hb3.cell hg2]; exact HC2.out.1
  have z14 : w3.cell? ⟨g2, 14, none⟩ = some (.int .u8 4) := by rw [hb3.cell hg2]; exact HC2.out.2
  have HB3 : Hid (Below w.heap.size w w3) := (HB1.out.trans (HB2.out.mono HB1.out.size)).trans (hb3.mono (Nat.le_trans HB1.out.size HB2.out.size))
  clear hb3
  go_wp2
  go_ret
  exact ⟨rfl, HB3.out⟩
end Go.Proofs.Ytdhfimolgcnejaa
