/- The contracts of how the library chooses a pivot, at rows of uint64: it lies within; nothing of the row turns. -/
import Derived.Test.YtcdfgcjecmpjhaaU14Row
import Derived.Deep.DeepCutAuto
import Derived.Deep.CutBlock
namespace Go.Proofs.Ytcdfgcjecmpjhaa
open Go.RowKit
set_option linter.unusedVariables false
set_option linter.unusedSimpArgs false
abbrev TI : TypeId := 3
/-- The row stands, the count of swaps lies in a block of its own. -/
structure Pv (w0 w : World) (g o : Nat) (d : Array Nat) (p s : Nat) : Prop where
  rw : Rw w0 w g o d
  box : Box w p TI #[.int .i64 (s : Int)]
  ne : p ≠ g
theorem Pv.drewN {w0 w : World} {g o p s : Nat} {d : Array Nat} (h : Pv w0 w g o d p s) (q : Nat) : Pv w0 (w.drewN q) g o d p s := ⟨h.rw.drewN q, h.box, h.ne⟩
theorem Pv.set {w0 w : World} {g o p s : Nat} {d : Array Nat} (h : Pv w0 w g o d p s) (hp : w0.heap.size ≤ p) (t : Nat) : Pv w0 (w.setCell ⟨p, 0, none⟩ (.int .i64 (t : Int))) g o d p t := by
  refine ⟨h.rw.kept (Below.heap_setCell _ _ _ _ (fun e => h.ne e.symm)) (h.rw.chg.set (fun hl => by omega) _ _), (h.box.set 0 _).eq (by simp), h.ne⟩
set_option maxRecDepth 100000 in
set_option maxHeartbeats 8000000 in
theorem order_at (w0 : World) (g o c a b n p s : Nat) (d : Array Nat) (w : World) (hP : Pv w0 w g o d p s) (hp : w0.heap.size ≤ p) (hn : d.size = n) (ha : a < n) (hb : b < n) (hs : s ≤ 1000) (hm : n < 2305843009213693952) :
    Calls Try.prog 83 #[.slice (some ⟨g, o, none⟩) n c, .int .i64 (a : Int), .int .i64 (b : Int), at_ p] w fun e w' => ∃ x y s' : Nat, e = .returned (.tuple #[.int .i64 (x : Int), .int .i64 (y : Int)]) ∧ ((x = a ∧ y = b) ∨ (x = b ∧ y = a)) ∧ s' ≤ s + 1 ∧ Pv w0 w' g o d p s' := by
  have HP : Hid (Pv w0 w g o d p s ∧ d.size = n ∧ w0.heap.size ≤ p) := ⟨hP, hn, hp⟩
  obtain ⟨G, HG, hcw, hfw⟩ := hP.rw.fam hn
  have hc0 : ∀ q, (w.drewN q).cell? ⟨p, 0, none⟩ = some (.int .i64 (s : Int)) := fun q => (hP.drewN q).box.cell 0
  have hf0 : ∀ q, (w.drewN q).frozen? ⟨p, 0, none⟩ = false := fun q => (hP.drewN q).box.soft 0
  clear hP hn hp
  go_enter Try.func83, Try.ntmps83
  cases hl : lN (G b) (G a)
  all_goals have HL : Hid (lN (G b) (G a) = _) := hl
  all_goals clear hl
  all_goals go_wp2_with fail
  all_goals go_quiet (first | (go_at_call 64; refine Calls.quiet_of_same (less_any _ _ _)))
  all_goals simp only [HL.out]
  · go_wp2
    go_ret2
    exact ⟨a, b, s, rfl, .inl ⟨rfl, rfl⟩, by omega, HP.out.1.drewN nq⟩
  · have hc1 := hc0 nq
    have hf1 := hf0 nq
    go_wp2
    go_ret2
    exact ⟨b, a, s + 1, rfl, .inr ⟨rfl, rfl⟩, Nat.le_refl _, (HP.out.1.drewN nq).set HP.out.2.2 (s + 1)⟩
set_option maxRecDepth 100000 in
set_option maxHeartbeats 8000000 in
theorem median_at (w0 : World) (g o c x y z n p s : Nat) (d : Array Nat) (w : World) (hP : Pv w0 w g o d p s) (hp : w0.heap.size ≤ p) (hn : d.size = n) (hx : x < n) (hy : y < n) (hz : z < n) (hs : s ≤ 900) (hm : n < 2305843009213693952) :
    Calls Try.prog 77 #[.slice (some ⟨g, o, none⟩) n c, .int .i64 (x : Int), .int .i64 (y : Int), .int .i64 (z : Int), at_ p] w fun e w' => ∃ m s' : Nat, e = .returned (.int .i64 (m : Int)) ∧ (m = x ∨ m = y ∨ m = z) ∧ s' ≤ s + 3 ∧ Pv w0 w' g o d p s' := by
  have HO : Hid (∀ (W : World) (a b s : Nat), Pv w0 W g o d p s → a < n → b < n → s ≤ 1000 → Calls Try.prog 83 #[.slice (some ⟨g, o, none⟩) n c, .int .i64 (a : Int), .int .i64 (b : Int), at_ p] W fun e w' => ∃ x y s' : Nat, e = .returned (.tuple #[.int .i64 (x : Int), .int .i64 (y : Int)]) ∧ ((x = a ∧ y = b) ∨ (x = b ∧ y = a)) ∧ s' ≤ s + 1 ∧ Pv w0 w' g o d p s') := fun W a b s h1 h2 h3 h4 => order_at w0 g o c a b n p s d W h1 hp hn h2 h3 h4 hm
  have HP : Hid (Pv w0 w g o d p s) := hP
  clear hP hn hp
  go_enter Try.func77, Try.ntmps77
  go_wp2_with fail
  refine (HO.out _ _ _ s HP.out hx hy (by omega)).mono ?_
  rintro _ w1 ⟨x1, y1, s1, rfl, h1, hs1, hp1⟩
  have H1 : Hid (Pv w0 w1 g o d p s1) := hp1
  clear hp1
  go_wp2_with fail
  refine (HO.out _ _ _ s1 H1.out (by omega) hz (by omega)).mono ?_
  rintro _ w2 ⟨x2, y2, s2, rfl, h2, hs2, hp2⟩
  have H2 : Hid (Pv w0 w2 g o d p s2) := hp2
  clear hp2
  go_wp2_with fail
  refine (HO.out _ _ _ s2 H2.out (by omega) (by omega) (by omega)).mono ?_
  rintro _ w3 ⟨x3, y3, s3, rfl, h3, hs3, hp3⟩
  have H3 : Hid (Pv w0 w3 g o d p s3) := hp3
  clear hp3
  go_wp2
  go_ret
  exact ⟨y3, s3, ret1 rfl, by omega, by omega, H3.out⟩
set_option maxRecDepth 100000 in
set_option maxHeartbeats 8000000 in
theorem adjacent_at (w0 : World) (g o c x n p s : Nat) (d : Array Nat) (w : World) (hP : Pv w0 w g o d p s) (hp : w0.heap.size ≤ p) (hn : d.size = n) (h0 : 0 < x) (hx : x + 1 < n) (hs : s ≤ 900) (hm : n < 2305843009213693952) :
    Calls Try.prog 76 #[.slice (some ⟨g, o, none⟩) n c, .int .i64 (x : Int), at_ p] w fun e w' => ∃ m s' : Nat, e = .returned (.int .i64 (m : Int)) ∧ x ≤ m + 1 ∧ m ≤ x + 1 ∧ s' ≤ s + 3 ∧ Pv w0 w' g o d p s' := by
  have hc := median_at w0 g o c (x - 1) x (x + 1) n p s d w hP hp hn (by omega) (by omega) (by omega) hs hm
  rw [show ((x - 1 : Nat) : Int) = (x : Int) - 1 by omega, show ((x + 1 : Nat) : Int) = (x : Int) + 1 by omega] at hc
  clear hP hp hn
  go_enter Try.func76, Try.ntmps76
  go_wp2_with fail
  refine hc.mono ?_
  rintro _ w1 ⟨m, s1, rfl, h1, hs1, hp1⟩
  have H1 : Hid (Pv w0 w1 g o d p s1) := hp1
  clear hp1
  go_wp2
  go_ret
  exact ⟨m, s1, ret1 rfl, by omega, by omega, by omega, H1.out⟩
set_option maxRecDepth 100000 in
set_option maxHeartbeats 16000000 in
theorem pivot_at (g o c a b n : Nat) (d : Array Nat) (w : World) (hR : Rw w w g o d) (hg : g < w.heap.size) (hn : d.size = n) (hab : a + 8 ≤ b) (hb : b ≤ n) (hm : n < 65536) :
    Calls Try.prog 61 #[.slice (some ⟨g, o, none⟩) n c, .int .i64 (a : Int), .int .i64 (b : Int)] w fun e w' => ∃ x h : Nat, e = .returned (.tuple #[.int .i64 (x : Int), .int .i64 (h : Int)]) ∧ a ≤ x ∧ x < b ∧ Rw w w' g o d := by
  have HP : Hid (Pv w (w.alloc (.cells #[.int .i64 0] TI)) g o d w.heap.size 0) := ⟨hR.alloc hg _, Box.new _ _ _, by omega⟩
  have HA : Hid (∀ (W : World) (x s : Nat), Pv w W g o d w.heap.size s → 0 < x → x + 1 < n → s ≤ 900 → Calls Try.prog 76 #[.slice (some ⟨g, o, none⟩) n c, .int .i64 (x : Int), at_ w.heap.size] W fun e w' => ∃ m s' : Nat, e = .returned (.int .i64 (m : Int)) ∧ x ≤ m + 1 ∧ m ≤ x + 1 ∧ s' ≤ s + 3 ∧ Pv w w' g o d w.heap.size s') := fun W x s h1 h2 h3 h4 => adjacent_at w g o c x n w.heap.size s d W h1 (Nat.le_refl _) hn h2 h3 h4 (by omega)
  have HM : Hid (∀ (W : World) (x y z s : Nat), Pv w W g o d w.heap.size s → x < n → y < n → z < n → s ≤ 900 → Calls Try.prog 77 #[.slice (some ⟨g, o, none⟩) n c, .int .i64 (x : Int), .int .i64 (y : Int), .int .i64 (z : Int), at_ w.heap.size] W fun e w' => ∃ m s' : Nat, e = .returned (.int .i64 (m : Int)) ∧ (m = x ∨ m = y ∨ m = z) ∧ s' ≤ s + 3 ∧ Pv w w' g o d w.heap.size s') := fun W x y z s h1 h2 h3 h4 h5 => median_at w g o c x y z n w.heap.size s d W h1 (Nat.le_refl _) hn h2 h3 h4 h5 (by omega)
  obtain ⟨q, hq⟩ : ∃ q, q = (b - a) / 4 := ⟨_, rfl⟩
  have hq1 : ((b : Int) - (a : Int)) / 4 = (q : Int) := by omega
  have hq2 : 2 ≤ q := by omega
  have hq3 : a + 4 * q ≤ b := by omega
  obtain ⟨i, hi⟩ : ∃ i, i = a + q := ⟨_, rfl⟩
  obtain ⟨j, hj⟩ : ∃ j, j = a + 2 * q := ⟨_, rfl⟩
  obtain ⟨k, hk⟩ : ∃ k, k = a + 3 * q := ⟨_, rfl⟩
  have hiI : (a : Int) + (q : Int) = (i : Int) := by omega
  have hjI : (a : Int) + (q : Int) * 2 = (j : Int) := by omega
  have hkI : (a : Int) + (q : Int) * 3 = (k : Int) := by omega
  have HQ : Hid (i = a + q ∧ j = a + 2 * q ∧ k = a + 3 * q) := ⟨hi, hj, hk⟩
  have h8 : (8 : Int) ≤ (b : Int) - (a : Int) := by omega
  clear hq hi hj hk hR hn
  go_enter Try.func61, Try.ntmps61
  go_upto_if 32 with (simp only [hq1, hiI, hjI, hkI])
  have hs1 : i + 1 < n ∧ 0 < i ∧ j + 1 < n ∧ k + 1 < n ∧ a ≤ i ∧ i < b ∧ a ≤ j ∧ j < b ∧ a ≤ k ∧ k < b ∧ a + 1 ≤ i ∧ k + 1 < b := by
    have := HQ.out
    omega
  go_cut [11] (fun s wz => ∃ m sw : Nat, s = .int .i64 (m : Int) ∧ a ≤ m ∧ m < b ∧ sw ≤ 100 ∧ Hid (Pv w wz g o d w.heap.size sw))
  case first =>
    by_cases h50 : (50 : Int) ≤ (b : Int) - (a : Int)
    · go_wp2_with fail
      refine (HA.out _ i 0 HP.out (by omega) (by omega) (by omega)).mono ?_
      rintro _ w1 ⟨m1, s1, rfl, h1, h1', hs1, hp1⟩
      have H1 : Hid (Pv w w1 g o d w.heap.size s1) := hp1
      clear hp1
      go_wp2_with fail
      refine (HA.out _ j s1 H1.out (by omega) (by omega) (by omega)).mono ?_
      rintro _ w2 ⟨m2, s2, rfl, h2, h2', hs2, hp2⟩
      have H2 : Hid (Pv w w2 g o d w.heap.size s2) := hp2
      clear hp2
      go_wp2_with fail
      refine (HA.out _ k s2 H2.out (by omega) (by omega) (by omega)).mono ?_
      rintro _ w3 ⟨m3, s3, rfl, h3, h3', hs3, hp3⟩
      have H3 : Hid (Pv w w3 g o d w.heap.size s3) := hp3
      clear hp3
      go_wp2_with fail
      refine (HM.out _ m1 m2 m3 s3 H3.out (by omega) (by omega) (by omega) (by omega)).mono ?_
      rintro _ w4 ⟨m4, s4, rfl, h4, hs4, hp4⟩
      have H4 : Hid (Pv w w4 g o d w.heap.size s4) := hp4
      clear hp4
      go_wp2_with fail
      go_meet
      exact ⟨m4, s4, rfl, by omega, by omega, by omega, H4.out⟩
    · go_wp2_with fail
      refine (HM.out _ i j k 0 HP.out (by omega) (by omega) (by omega) (by omega)).mono ?_
      rintro _ w4 ⟨m4, s4, rfl, h4, hs4, hp4⟩
      have H4 : Hid (Pv w w4 g o d w.heap.size s4) := hp4
      clear hp4
      go_wp2_with fail
      go_meet
      exact ⟨m4, s4, rfl, by omega, by omega, by omega, H4.out⟩
  case rest =>
    obtain ⟨m, sw, rfl, hm1, hm2, hsw, HZ⟩ := hcut
    have hc0 : wc.cell? ⟨w.heap.size, 0, none⟩ = some (.int .i64 (sw : Int)) := HZ.out.box.cell 0
    go_wp2
    · go_ret2
      exact ⟨m, 1, rfl, hm1, hm2, HZ.out.rw⟩
    · go_ret2
      exact ⟨m, 2, rfl, hm1, hm2, HZ.out.rw⟩
    · go_ret2
      exact ⟨m, 0, rfl, hm1, hm2, HZ.out.rw⟩
end Go.Proofs.Ytcdfgcjecmpjhaa
