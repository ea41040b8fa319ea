/- The contracts of how the library chooses a pivot, at rows of uint64: it lies within; nothing of the row turns. -/
import Derived.Test.YtmlfbihlbiikeaaGreatDoorQa07
import Derived.Deep.DeepCutAuto
import Derived.Deep.CutBlock
import Derived.Test.YtmlfbihlbiikeaaGreatDoorQa01
import Derived.Lib.Tables
import Derived.Lib.BitFns
import Derived.Lib.ItoaNum
namespace Go.Proofs.YtmlfbihlbiikeaaGreatDoor
open Go.RowKit
set_option linter.unusedVariables false
set_option linter.unusedSimpArgs false
abbrev TI : TypeId := 3
structure Pv (w0 w : World) (g o : Nat) (d : Array Nat) (p s : Nat) : Prop where
  rw : Rw w0 w g o d
  box : Box w p TI #[.int .i64 (s : Int)]
  ne : p ≠ g
theorem Pv.drewN {w0 w : World} {g o p s : Nat} {d : Array Nat} (h : Pv w0 w g o d p s) (q : Nat) : Pv w0 (w.drewN q) g o d p s := ⟨h.rw.drewN q, h.box, h.ne⟩
theorem Pv.set {w0 w : World} {g o p s : Nat} {d : Array Nat} (h : Pv w0 w g o d p s) (hp : w0.heap.size ≤ p) (t : Nat) : Pv w0 (w.setCell ⟨p, 0, none⟩ (.int .i64 (t : Int))) g o d p t := by
  refine ⟨h.rw.kept (Below.heap_setCell _ _ _ _ (fun e => h.ne e.symm)) (h.rw.chg.set (fun hl => by omega) _ _), (h.box.set 0 _).eq (by simp), h.ne⟩
set_option maxRecDepth 100000 in
set_option maxHeartbeats 8000000 in
theorem order_at (w0 : World) (g o c a b n p s : Nat) (d : Array Nat) (w : World) (hP : Pv w0 w g o d p s) (hp : w0.heap.size ≤ p) (hn : d.size = n) (ha : a < n) (hb : b < n) (hs : s ≤ 1000) (hm : n < 2305843009213693952) :
    Calls Tryz.prog 271 #[.slice (some ⟨g, o, none⟩) n c, .int .i64 (a : Int), .int .i64 (b : Int), at_ p] w fun e w' => ∃ x y s' : Nat, e = .returned (.tuple #[.int .i64 (x : Int), .int .i64 (y : Int)]) ∧ ((x = a ∧ y = b) ∨ (x = b ∧ y = a)) ∧ s' ≤ s + 1 ∧ Pv w0 w' g o d p s' := by
  have HP : Hid (Pv w0 w g o d p s ∧ d.size = n ∧ w0.heap.size ≤ p) := ⟨hP, hn, hp⟩
  obtain ⟨G, HG, hcw, hfw⟩ := hP.rw.fam hn
  have hc0 : ∀ q, (w.drewN q).cell? ⟨p, 0, none⟩ = some (.int .i64 (s : Int)) := fun q => (hP.drewN q).box.cell 0
  have hf0 : ∀ q, (w.drewN q).frozen? ⟨p, 0, none⟩ = false := fun q => (hP.drewN q).box.soft 0
  clear hP hn hp
  go_enter Tryz.func271, Tryz.ntmps271
  cases hl : lN (G b) (G a)
  all_goals have HL : Hid (lN (G b) (G a) = _) := hl
  all_goals clear hl
  all_goals go_wp2_with fail
  all_goals go_quiet (first | (go_at_call 248; refine Calls.quiet_of_same (less_any _ _ _)))
  all_goals simp only [HL.out]
  · go_wp2
    go_ret2
    exact ⟨a, b, s, rfl, .inl ⟨rfl, rfl⟩, by omega, HP.out.1.drewN nq⟩
  · have hc1 := hc0 nq
    have hf1 := hf0 nq
    go_wp2
    go_ret2
    exact ⟨b, a, s + 1, rfl, .inr ⟨rfl, rfl⟩, Nat.le_refl _, (HP.out.1.drewN nq).set HP.out.2.2 (s + 1)⟩
set_option maxRecDepth 100000 in
set_option maxHeartbeats 8000000 in
theorem median_at (w0 : World) (g o c x y z n p s : Nat) (d : Array Nat) (w : World) (hP : Pv w0 w g o d p s) (hp : w0.heap.size ≤ p) (hn : d.size = n) (hx : x < n) (hy : y < n) (hz : z < n) (hs : s ≤ 900) (hm : n < 2305843009213693952) :
    Calls Tryz.prog 265 #[.slice (some ⟨g, o, none⟩) n c, .int .i64 (x : Int), .int .i64 (y : Int), .int .i64 (z : Int), at_ p] w fun e w' => ∃ m s' : Nat, e = .returned (.int .i64 (m : Int)) ∧ (m = x ∨ m = y ∨ m = z) ∧ s' ≤ s + 3 ∧ Pv w0 w' g o d p s' := by
  have HO : Hid (∀ (W : World) (a b s : Nat), Pv w0 W g o d p s → a < n → b < n → s ≤ 1000 → Calls Tryz.prog 271 #[.slice (some ⟨g, o, none⟩) n c, .int .i64 (a : Int), .int .i64 (b : Int), at_ p] W fun e w' => ∃ x y s' : Nat, e = .returned (.tuple #[.int .i64 (x : Int), .int .i64 (y : Int)]) ∧ ((x = a ∧ y = b) ∨ (x = b ∧ y = a)) ∧ s' ≤ s + 1 ∧ Pv w0 w' g o d p s') := fun W a b s h1 h2 h3 h4 => order_at w0 g o c a b n p s d W h1 hp hn h2 h3 h4 hm
  have HP : Hid (Pv w0 w g o d p s) := hP
  clear hP hn hp
  go_enter Tryz.func265, Tryz.ntmps265
  go_wp2_with fail
  refine (HO.out _ _ _ s HP.out hx hy (by omega)).mono ?_
  rintro _ w1 ⟨x1, y1, s1, rfl, h1, hs1, hp1⟩
  have H1 : Hid (Pv w0 w1 g o d p s1) := hp1
  clear hp1
  go_wp2_with fail
  refine (HO.out _ _ _ s1 H1.out (by omega) hz (by omega)).mono ?_
  rintro _ w2 ⟨x2, y2, s2, rfl, h2, hs2, hp2⟩
  have H2 : Hid (Pv w0 w2 g o d p s2) := hp2
  clear hp2
  go_wp2_with fail
  refine (HO.out _ _ _ s2 H2.out (by omega) (by omega) (by omega)).mono ?_
  rintro _ w3 ⟨x3, y3, s3, rfl, h3, hs3, hp3⟩
  have H3 : Hid (Pv w0 w3 g o d p s3) := hp3
  clear hp3
  go_wp2
  go_ret
  exact ⟨y3, s3, ret1 rfl, by omega, by omega, H3.out⟩
set_option maxRecDepth 100000 in
set_option maxHeartbeats 8000000 in
theorem adjacent_at (w0 : World) (g o c x n p s : Nat) (d : Array Nat) (w : World) (hP : Pv w0 w g o d p s) (hp : w0.heap.size ≤ p) (hn : d.size = n) (h0 : 0 < x) (hx : x + 1 < n) (hs : s ≤ 900) (hm : n < 2305843009213693952) :
    Calls Tryz.prog 264 #[.slice (some ⟨g, o, none⟩) n c, .int .i64 (x : Int), at_ p] w fun e w' => ∃ m s' : Nat, e = .returned (.int .i64 (m : Int)) ∧ x ≤ m + 1 ∧ m ≤ x + 1 ∧ s' ≤ s + 3 ∧ Pv w0 w' g o d p s' := by
  have hc := median_at w0 g o c (x - 1) x (x + 1) n p s d w hP hp hn (by omega) (by omega) (by omega) hs hm
  rw [show ((x - 1 : Nat) : Int) = (x : Int) - 1 by omega, show ((x + 1 : Nat) : Int) = (x : Int) + 1 by omega] at hc
  clear hP hp hn
  go_enter Tryz.func264, Tryz.ntmps264
  go_wp2_with fail
  refine hc.mono ?_
  rintro _ w1 ⟨m, s1, rfl, h1, hs1, hp1⟩
  have H1 : Hid (Pv w0 w1 g o d p s1) := hp1
  clear hp1
  go_wp2
  go_ret
  exact ⟨m, s1, ret1 rfl, by omega, by omega, by omega, H1.out⟩
set_option maxRecDepth 100000 in
set_option maxHeartbeats 16000000 in
theorem pivot_at (g o c a b n : Nat) (d : Array Nat) (w : World) (hR : Rw w w g o d) (hg : g < w.heap.size) (hn : d.size = n) (hab : a + 8 ≤ b) (hb : b ≤ n) (hm : n < 65536) :
    Calls Tryz.prog 245 #[.slice (some ⟨g, o, none⟩) n c, .int .i64 (a : Int), .int .i64 (b : Int)] w fun e w' => ∃ x h : Nat, e = .returned (.tuple #[.int .i64 (x : Int), .int .i64 (h : Int)]) ∧ a ≤ x ∧ x < b ∧ Rw w w' g o d := by
  have HP : Hid (Pv w (w.alloc (.cells #[.int .i64 0] TI)) g o d w.heap.size 0) := ⟨hR.alloc hg _, Box.new _ _ _, by omega⟩
  have HA : Hid (∀ (W : World) (x s : Nat), Pv w W g o d w.heap.size s → 0 < x → x + 1 < n → s ≤ 900 → Calls Tryz.prog 264 #[.slice (some ⟨g, o, none⟩) n c, .int .i64 (x : Int), at_ w.heap.size] W fun e w' => ∃ m s' : Nat, e = .returned (.int .i64 (m : Int)) ∧ x ≤ m + 1 ∧ m ≤ x + 1 ∧ s' ≤ s + 3 ∧ Pv w w' g o d w.heap.size s') := fun W x s h1 h2 h3 h4 => adjacent_at w g o c x n w.heap.size s d W h1 (Nat.le_refl _) hn h2 h3 h4 (by omega)
  have HM : Hid (∀ (W : World) (x y z s : Nat), Pv w W g o d w.heap.size s → x < n → y < n → z < n → s ≤ 900 → Calls Tryz.prog 265 #[.slice (some ⟨g, o, none⟩) n c, .int .i64 (x : Int), .int .i64 (y : Int), .int .i64 (z : Int), at_ w.heap.size] W fun e w' => ∃ m s' : Nat, e = .returned (.int .i64 (m : Int)) ∧ (m = x ∨ m = y ∨ m = z) ∧ s' ≤ s + 3 ∧ Pv w w' g o d w.heap.size s') := fun W x y z s h1 h2 h3 h4 h5 => median_at w g o c x y z n w.heap.size s d W h1 (Nat.le_refl _) hn h2 h3 h4 h5 (by omega)
  obtain ⟨q, hq⟩ : ∃ q, q = (b - a) / 4 := ⟨_, rfl⟩
  have hq1 : ((b : Int) - (a : Int)) / 4 = (q : Int) := by omega
  have hq2 : 2 ≤ q := by omega
  have hq3 : a + 4 * q ≤ b := by omega
  obtain ⟨i, hi⟩ : ∃ i, i = a + q := ⟨_, rfl⟩
  obtain ⟨j, hj⟩ : ∃ j, j = a + 2 * q := ⟨_, rfl⟩
  obtain ⟨k, hk⟩ : ∃ k, k = a + 3 * q := ⟨_, rfl⟩
  have hiI : (a : Int) + (q : Int) = (i : Int) := by omega
  have hjI : (a : Int) + (q : Int) * 2 = (j : Int) := by omega
  have hkI : (a : Int) + (q : Int) * 3 = (k : Int) := by omega
  have HQ : Hid (i = a + q ∧ j = a + 2 * q ∧ k = a + 3 * q) := ⟨hi, hj, hk⟩
  have h8 : (8 : Int) ≤ (b : Int) - (a : Int) := by omega
  clear hq hi hj hk hR hn
  go_enter Tryz.func245, Tryz.ntmps245
  go_upto_if 32 with (simp only [hq1, hiI, hjI, hkI])
  have hs1 : i + 1 < n ∧ 0 < i ∧ j + 1 < n ∧ k + 1 < n ∧ a ≤ i ∧ i < b ∧ a ≤ j ∧ j < b ∧ a ≤ k ∧ k < b ∧ a + 1 ≤ i ∧ k + 1 < b := by
    have := HQ.out
    omega
  go_cut [11] (fun s wz => ∃ m sw : Nat, s = .int .i64 (m : Int) ∧ a ≤ m ∧ m < b ∧ sw ≤ 100 ∧ Hid (Pv w wz g o d w.heap.size sw))
  case first =>
    by_cases h50 : (50 : Int) ≤ (b : Int) - (a : Int)
    · go_wp2_with fail
      refine (HA.out _ i 0 HP.out (by omega) (by omega) (by omega)).mono ?_
      rintro _ w1 ⟨m1, s1, rfl, h1, h1', hs1, hp1⟩
      have H1 : Hid (Pv w w1 g o d w.heap.size s1) := hp1
      clear hp1
      go_wp2_with fail
      refine (HA.out _ j s1 H1.out (by omega) (by omega) (by omega)).mono ?_
      rintro _ w2 ⟨m2, s2, rfl, h2, h2', hs2, hp2⟩
      have H2 : Hid (Pv w w2 g o d w.heap.size s2) := hp2
      clear hp2
      go_wp2_with fail
      refine (HA.out _ k s2 H2.out (by omega) (by omega) (by omega)).mono ?_
      rintro _ w3 ⟨m3, s3, rfl, h3, h3', hs3, hp3⟩
      have H3 : Hid (Pv w w3 g o d w.heap.size s3) := hp3
      clear hp3
      go_wp2_with fail
      refine (HM.out _ m1 m2 m3 s3 H3.out (by omega) (by omega) (by omega) (by omega)).mono ?_
      rintro _ w4 ⟨m4, s4, rfl, h4, hs4, hp4⟩
      have H4 : Hid (Pv w w4 g o d w.heap.size s4) := hp4
      clear hp4
      go_wp2_with fail
      go_meet
      exact ⟨m4, s4, rfl, by omega, by omega, by omega, H4.out⟩
    · go_wp2_with fail
      refine (HM.out _ i j k 0 HP.out (by omega) (by omega) (by omega) (by omega)).mono ?_
      rintro _ w4 ⟨m4, s4, rfl, h4, hs4, hp4⟩
      have H4 : Hid (Pv w w4 g o d w.heap.size s4) := hp4
      clear hp4
      go_wp2_with fail
      go_meet
      exact ⟨m4, s4, rfl, by omega, by omega, by omega, H4.out⟩
  case rest =>
    obtain ⟨m, sw, rfl, hm1, hm2, hsw, HZ⟩ := hcut
    have hc0 : wc.cell? ⟨w.heap.size, 0, none⟩ = some (.int .i64 (sw : Int)) := HZ.out.box.cell 0
    go_wp2
    · go_ret2
      exact ⟨m, 1, rfl, hm1, hm2, HZ.out.rw⟩
    · go_ret2
      exact ⟨m, 2, rfl, hm1, hm2, HZ.out.rw⟩
    · go_ret2
      exact ⟨m, 0, rfl, hm1, hm2, HZ.out.rw⟩
end Go.Proofs.YtmlfbihlbiikeaaGreatDoor
namespace Go.Proofs.YtmlfbihlbiikeaaGreatDoor
open Go.RowKit
set_option linter.unusedVariables false
set_option linter.unusedSimpArgs false
theorem idx_len (x : Nat) (hx : x < 256) : ∃ L : Nat, L ≤ 8 ∧ (∀ W : World, (Instr.index 9 (.string Lib.len8tab) (.int .u8 (x : Int))).run Tryz.prog W = .ok (.int .u8 (L : Int)) W) ∧ Hid (L = Lib.bitLen x) := by
  refine ⟨Lib.bitLen x, Lib.bitLen_le8' (x : Int) (by omega) (by omega), fun W => ?_, rfl⟩
  rw [Lib.run_index_len8tab W 9 .u8 x Tryz.underlying9 (by omega) (by omega), Lib.len8_of x (by omega) (by omega)]
  rfl
set_option maxRecDepth 1000000 in
set_option maxHeartbeats 4000000 in
theorem len64_at (x : Nat) (hx : x < 65536) (w : World) : Calls Tryz.prog 187 #[.int .u64 (x : Int)] w fun e w' => e = .returned (.int .i64 ((Lib.bitLen x : Nat) : Int)) ∧ w = w' := by
  go_enter Tryz.func187, Tryz.ntmps187
  conv in Value.string _ => change Value.string Lib.len8tab
  have h1 : ¬ (4294967296 : Int) ≤ (x : Int) := by omega
  have h2 : ¬ (65536 : Int) ≤ (x : Int) := by omega
  by_cases h : x < 256
  · obtain ⟨L, hL, hidx, HL⟩ := idx_len x h
    have hmod : (x : Int) % 256 = (x : Int) := by omega
    generalize Lib.len8tab = T at *
    go_upto_region 10 with fail
    go_wp2
    go_ret
    refine ⟨?_, rfl⟩
    rw [← HL.out]
    rfl
  · go_upto_region 10 with fail
    obtain ⟨y, hy⟩ : ∃ y, y = x / 256 := ⟨_, rfl⟩
    obtain ⟨L, hL, hidx, HL⟩ := idx_len y (by omega)
    have hmod : (y : Int) % 256 = (y : Int) := by omega
    have hyI : (x : Int) / 256 = (y : Int) := by omega
    have HX : Hid (Lib.bitLen x = 8 + L) := by rw [HL.out, hy]; exact Lib.bitLen_shift8 x (by omega) (by omega)
    have hy2 : y < 256 := by omega
    simp only [hyI]
    clear hyI hy
    generalize Lib.len8tab = T at *
    go_wp2
    go_ret
    refine ⟨?_, rfl⟩
    rw [HX.out]
    refine congrArg Ending.returned ?_
    simp
set_option maxRecDepth 100000 in
set_option maxHeartbeats 4000000 in
theorem len_at (x : Nat) (hx : x < 65536) (w : World) : Calls Tryz.prog 208 #[.int .u64 (x : Int)] w fun e w' => e = .returned (.int .i64 ((Lib.bitLen x : Nat) : Int)) ∧ w = w' := by
  have HL := fun W => len64_at x hx W
  have HL2 : Hid (∀ W, Calls Tryz.prog 187 #[.int .u64 (x : Int)] W fun e w' => e = .returned (.int .i64 ((Lib.bitLen x : Nat) : Int)) ∧ W = w') := HL
  clear HL
  go_enter Tryz.func208, Tryz.ntmps208
  go_wp2_with fail
  refine (HL2.out _).mono ?_
  rintro _ w1 ⟨rfl, rfl⟩
  go_wp2
  go_ret
  exact ⟨ret1 rfl, rfl⟩
theorem len_bounds {x : Nat} (h0 : 0 < x) (hx : x < 65536) : x < 2 ^ Lib.bitLen x ∧ 2 ^ Lib.bitLen x ≤ 2 * x ∧ Lib.bitLen x ≤ 16 := by
  obtain ⟨h1, h2, h3⟩ := Lib.bitLenAux_bounds 64 x (by omega) (by omega)
  refine ⟨h3, ?_, Lib.bitLen_le x 16 (by omega) hx⟩
  show 2 ^ Lib.bitLenAux 64 x ≤ 2 * x
  obtain ⟨k, hk⟩ : ∃ k, Lib.bitLenAux 64 x = k + 1 := ⟨Lib.bitLenAux 64 x - 1, by omega⟩
  rw [hk] at h2 ⊢
  rw [Nat.pow_succ]
  simp only [Nat.add_sub_cancel] at h2
  omega
set_option maxRecDepth 100000 in
set_option maxHeartbeats 4000000 in
theorem pow_at (x : Nat) (h0 : 0 < x) (hx : x < 65536) (w : World) : Calls Tryz.prog 258 #[.int .i64 (x : Int)] w fun e w' => e = .returned (.int .u64 ((2 ^ Lib.bitLen x : Nat) : Int)) ∧ w = w' := by
  have HL : Hid (∀ W, Calls Tryz.prog 208 #[.int .u64 (x : Int)] W fun e w' => e = .returned (.int .i64 ((Lib.bitLen x : Nat) : Int)) ∧ W = w') := fun W => len_at x hx W
  have hb := (len_bounds h0 hx).2.2
  generalize Lib.bitLen x = L at HL hb ⊢
  go_enter Tryz.func258, Tryz.ntmps258
  go_wp2_with fail
  refine (HL.out _).mono ?_
  rintro _ w1 ⟨rfl, rfl⟩
  clear HL
  have h2 : ((2 : Int) ^ L) = ((2 ^ L : Nat) : Int) := by simp
  have hw : IntKind.u64.wrap (2 ^ L) = (2 : Int) ^ L := by
    have h1 : (2 : Nat) ^ L ≤ 2 ^ 16 := Nat.pow_le_pow_right (by omega) hb
    rw [h2]
    generalize (2 : Nat) ^ L = P at h1
    rw [IntKind.wrap_u64]
    omega
  have H2 : Hid _ := h2
  clear h2
  go_wp2_with fail
  go_ret
  refine ⟨ret1 ?_, rfl⟩
  show Value.int .u64 ((2 : Int) ^ L) = _
  rw [H2.out]
theorem xor_nat (a b : Int) : ∃ y : Nat, y < 18446744073709551616 ∧ bits .xor .u64 a b = (y : Int) := by
  have h := (BitVec.ofInt 64 a ^^^ BitVec.ofInt 64 b).isLt
  refine ⟨(BitVec.ofInt 64 a ^^^ BitVec.ofInt 64 b).toNat, h, ?_⟩
  have e : bits .xor .u64 a b = IntKind.u64.wrap ((BitVec.ofInt 64 a ^^^ BitVec.ofInt 64 b).toNat : Int) := rfl
  rw [e, IntKind.wrap_u64]
  generalize (BitVec.ofInt 64 a ^^^ BitVec.ofInt 64 b).toNat = z at h ⊢
  omega
set_option maxRecDepth 100000 in
set_option maxHeartbeats 4000000 in
theorem next_at (g : Nat) (x : Nat) (w : World) (hb : Box w g 312 #[.int .u64 (x : Int)]) : Calls Tryz.prog 259 #[at_ g] w fun e w' => ∃ y : Nat, e = .returned (.int .u64 (y : Int)) ∧ y < 18446744073709551616 ∧ Box w' g 312 #[.int .u64 (y : Int)] ∧ Chg (fun k => k = g) w w' := by
  have HB : Hid (Box w g 312 #[.int .u64 (x : Int)] ∧ Chg (fun k => k = g) w w) := ⟨hb, Chg.refl _ _⟩
  have HS : Hid (∀ (W : World) (z : Nat) (v : Int), Box W g 312 #[.int .u64 (z : Int)] ∧ Chg (fun k => k = g) w W → (∃ y : Nat, y < 18446744073709551616 ∧ v = (y : Int)) → ∃ y : Nat, y < 18446744073709551616 ∧ Hid (Box (W.setCell ⟨g, 0, none⟩ (.int .u64 v)).drew g 312 #[.int .u64 (y : Int)] ∧ Chg (fun k => k = g) w (W.setCell ⟨g, 0, none⟩ (.int .u64 v)).drew)) := by
    rintro W z v ⟨h1, h2⟩ ⟨y, hy, rfl⟩
    exact ⟨y, hy, (h1.set 0 _).eq (by simp), (h2.set (fun _ => rfl) _ _).drew⟩
  clear hb
  go_enter Tryz.func259, Tryz.ntmps259
  go_upto_region 1 with fail
  go_cut [2] (fun s wz => s = .int .u64 0 ∧ ∃ y : Nat, y < 18446744073709551616 ∧ Hid (Box wz g 312 #[.int .u64 (y : Int)] ∧ Chg (fun k => k = g) w wz))
  case first =>
    have c0 : w.cell? ⟨g, 0, none⟩ = some (.int .u64 (x : Int)) := HB.out.1.cell 0
    have f0 : w.frozen? ⟨g, 0, none⟩ = false := HB.out.1.soft 0
    go_region
    all_goals go_wp2_with fail
    go_meet
    exact ⟨rfl, HS.out w x _ HB.out (xor_nat _ _)⟩
  case rest =>
    obtain ⟨rfl, y1, hy1, H1⟩ := hcut
    go_upto_region 2 with fail
    go_cut [2] (fun s wz => s = .int .u64 0 ∧ ∃ y : Nat, y < 18446744073709551616 ∧ Hid (Box wz g 312 #[.int .u64 (y : Int)] ∧ Chg (fun k => k = g) w wz))
    case first =>
      have c0 : wc.cell? ⟨g, 0, none⟩ = some (.int .u64 (y1 : Int)) := H1.out.1.cell 0
      have f0 : wc.frozen? ⟨g, 0, none⟩ = false := H1.out.1.soft 0
      go_region
      all_goals go_wp2_with fail
      go_meet
      exact ⟨rfl, HS.out wc y1 _ H1.out (xor_nat _ _)⟩
    case rest =>
      obtain ⟨rfl, y2, hy2, H2⟩ := hcut
      go_upto_region 3 with fail
      go_cut [2] (fun s wz => s = .int .u64 0 ∧ ∃ y : Nat, y < 18446744073709551616 ∧ Hid (Box wz g 312 #[.int .u64 (y : Int)] ∧ Chg (fun k => k = g) w wz))
      case first =>
        have c0 : wc.cell? ⟨g, 0, none⟩ = some (.int .u64 (y2 : Int)) := H2.out.1.cell 0
        have f0 : wc.frozen? ⟨g, 0, none⟩ = false := H2.out.1.soft 0
        go_region
        all_goals go_wp2_with fail
        go_meet
        exact ⟨rfl, HS.out wc y2 _ H2.out (xor_nat _ _)⟩
      case rest =>
        obtain ⟨rfl, y3, hy3, H3⟩ := hcut
        have c0 : wc.cell? ⟨g, 0, none⟩ = some (.int .u64 (y3 : Int)) := H3.out.1.cell 0
        go_wp2
        go_ret
        exact ⟨y3, ret1 rfl, hy3, H3.out⟩
set_option maxRecDepth 100000 in
set_option maxHeartbeats 8000000 in
theorem brk_at (g o c a b n : Nat) (d : Array Nat) (w : World) (hR : Rw w w g o d) (hg : g < w.heap.size) (hn : d.size = n) (hab : a + 8 ≤ b) (hb : b ≤ n) (hm : n < 65536) :
    Calls Tryz.prog 244 #[.slice (some ⟨g, o, none⟩) n c, .int .i64 (a : Int), .int .i64 (b : Int)] w fun e w' => e = .returned (.tuple #[]) ∧ ∃ d', Rw w w' g o d' ∧ Sort.PermIn a b d d' := by
  obtain ⟨l, hl⟩ : ∃ l, l = b - a := ⟨_, rfl⟩
  have hlI : (b : Int) - (a : Int) = (l : Int) := by omega
  have hl8 : 8 ≤ l := by omega
  have hl8I : (8 : Int) ≤ (l : Int) := by omega
  have hln : l < 65536 := by omega
  obtain ⟨q, hq⟩ : ∃ q, q = l / 4 := ⟨_, rfl⟩
  have hqI : (l : Int) / 4 = (q : Int) := by omega
  have hq2 : 2 ≤ q := by omega
  have hq4 : a + 4 * q ≤ b := by omega
  have HLB : Hid (a + l = b) := by unfold Hid; omega
  have HM : Hid (∀ W, Calls Tryz.prog 258 #[.int .i64 (l : Int)] W fun e w' => e = .returned (.int .u64 ((2 ^ Lib.bitLen l : Nat) : Int)) ∧ W = w') := fun W => pow_at l (by omega) hln W
  obtain ⟨h1, h2, h3⟩ := len_bounds (x := l) (by omega) hln
  generalize 2 ^ Lib.bitLen l = M at HM h1 h2
  clear h3 hl hq
  have HW : Hid (Rw w (w.alloc (.cells #[.int .u64 (l : Int)] 312)) g o d ∧ Box (w.alloc (.cells #[.int .u64 (l : Int)] 312)) w.heap.size 312 #[.int .u64 (l : Int)] ∧ d.size = n ∧ g < w.heap.size) := ⟨hR.alloc hg _, Box.new _ _ _, hn, hg⟩
  have HN : Hid (∀ (W : World) (x : Nat), Box W w.heap.size 312 #[.int .u64 (x : Int)] → Calls Tryz.prog 259 #[at_ w.heap.size] W fun e w' => ∃ y : Nat, e = .returned (.int .u64 (y : Int)) ∧ y < 18446744073709551616 ∧ Box w' w.heap.size 312 #[.int .u64 (y : Int)] ∧ Chg (fun k => k = w.heap.size) W w') := fun W x hx => next_at _ _ _ hx
  clear hR hn hg
  go_enter Tryz.func244, Tryz.ntmps244
  go_wp2_with (simp only [hlI])
  refine (HM.out _).mono ?_
  rintro _ w1 ⟨rfl, rfl⟩
  clear HM
  go_wp2_with (simp only [hqI])
  go_loopg [9] 3 (fun kx s9 wr => ∃ (i x : Nat) (di : Array Nat), s9 = .int .i64 (i : Int) ∧ a + 2 * q ≤ i + 1 ∧ i ≤ a + 2 * q + 2 ∧ kx = a + 2 * q + 2 - i ∧ Hid (Rw w wr g o di ∧ Box wr w.heap.size 312 #[.int .u64 (x : Int)] ∧ Sort.PermIn a b d di))
  case atStart => exact ⟨a + 2 * q - 1, l, d, by congr 1; omega, by omega, by omega, by omega, HW.out.1, HW.out.2.1, Sort.permIn_refl _ _ _⟩
  case round =>
    obtain ⟨i, x, di, rfl, hi1, hi2, hkx, HI⟩ := hrel
    by_cases hle : i ≤ a + 2 * q + 1
    · have hleI : (i : Int) ≤ (a : Int) + (q : Int) * 2 + 1 := by omega
      go_wp2_with (simp only [hqI])
      refine (HN.out _ x HI.out.2.1).mono ?_
      rintro _ w2 ⟨y, rfl, hy, hbx, hch⟩
      have hgl : g < w.heap.size := HW.out.2.2.2
      have H2 : Hid (Rw w w2 g o di ∧ Box w2 w.heap.size 312 #[.int .u64 (y : Int)]) := ⟨HI.out.1.kept (hch.block g (Nat.lt_of_lt_of_le hgl HI.out.1.chg.size) (by omega)) (HI.out.1.chg.andThen hch fun k hk e => by omega), hbx⟩
      clear hbx hch hgl
      have hM1 : IntKind.u64.wrap ((M : Int) - 1) = ((M - 1 : Nat) : Int) := by rw [IntKind.wrap_u64]; omega
      have hand : bits .and .u64 (y : Int) ((M - 1 : Nat) : Int) = ((y &&& (M - 1) : Nat) : Int) := nbits_and64 y (M - 1) hy (by omega)
      have hz : y &&& (M - 1) ≤ M - 1 := Nat.and_le_right
      generalize y &&& (M - 1) = z at hand hz
      go_upto_if 43 with fail
      go_cut [10] (fun s wz => ∃ t : Nat, s = .int .i64 (t : Int) ∧ t < l ∧ wz = w2)
      case first =>
        by_cases hlz : l ≤ z
        · go_wp2_with fail
          go_meet
          exact ⟨z - l, by congr 1; omega, by omega, rfl⟩
        · go_wp2_with fail
          go_meet
          exact ⟨z, rfl, by omega, rfl⟩
      case rest =>
        obtain ⟨t, rfl, htl, rfl⟩ := hcut
        have hab2 : a + l = b := HLB.out
        have HSZ : Hid (di.size = n) := by
          unfold Hid
          rw [HI.out.2.2.1]
          exact HW.out.2.2.1
        obtain ⟨G, HG, hcw, hfw⟩ := H2.out.1.fam HSZ.out
        by_cases hit : i = a + t
        · subst hit
          have HSW : Hid (Rw w ((wc.setCell ⟨g, o + (a + t), none⟩ (.int .u64 (G (a + t) : Int))).setCell ⟨g, o + (a + t), none⟩ (.int .u64 (G (a + t) : Int))).drew g o (Sort.swp di (a + t) (a + t))) := by
            rw [HG.out]
            exact H2.out.1.swap (by rw [HSZ.out]; omega) (by rw [HSZ.out]; omega) 1
          have HSB : Hid (Box ((wc.setCell ⟨g, o + (a + t), none⟩ (.int .u64 (G (a + t) : Int))).setCell ⟨g, o + (a + t), none⟩ (.int .u64 (G (a + t) : Int))).drew w.heap.size 312 #[.int .u64 (y : Int)]) := (H2.out.2.other (Nat.ne_of_gt HW.out.2.2.2) _ _).other (Nat.ne_of_gt HW.out.2.2.2) _ _
          go_wp2_with fail
          go_region
          all_goals go_wp2_with fail
          go_roundg (a + 2 * q + 2 - (a + t + 1))
          case measure => omega
          case rel => exact ⟨a + t + 1, y, Sort.swp di (a + t) (a + t), by go_num, by omega, by omega, by omega, HSW.out, HSB.out, Sort.permIn_trans _ _ _ _ _ HI.out.2.2 (Sort.swp_permIn _ _ _ _ _ (by omega) (by omega) (by omega) (by omega) (by rw [HSZ.out]; omega))⟩
        · rcases Nat.lt_or_ge i (a + t) with hne | hne
          · have HSW : Hid (Rw w ((wc.setCell ⟨g, o + i, none⟩ (.int .u64 (G (a + t) : Int))).setCell ⟨g, o + (a + t), none⟩ (.int .u64 (G i : Int))).drew g o (Sort.swp di i (a + t))) := by
              rw [HG.out, HG.out]
              exact H2.out.1.swap (by rw [HSZ.out]; omega) (by rw [HSZ.out]; omega) 1
            have HSB : Hid (Box ((wc.setCell ⟨g, o + i, none⟩ (.int .u64 (G (a + t) : Int))).setCell ⟨g, o + (a + t), none⟩ (.int .u64 (G i : Int))).drew w.heap.size 312 #[.int .u64 (y : Int)]) := (H2.out.2.other (Nat.ne_of_gt HW.out.2.2.2) _ _).other (Nat.ne_of_gt HW.out.2.2.2) _ _
            go_wp2_with fail
            go_region
            all_goals go_wp2_with fail
            go_roundg (a + 2 * q + 2 - (i + 1))
            case measure => omega
            case rel => exact ⟨i + 1, y, Sort.swp di i (a + t), by go_num, by omega, by omega, by omega, HSW.out, HSB.out, Sort.permIn_trans _ _ _ _ _ HI.out.2.2 (Sort.swp_permIn _ _ _ _ _ (by omega) (by omega) (by omega) (by omega) (by rw [HSZ.out]; omega))⟩
          · have hne2 : a + t < i := by omega
            have HSW : Hid (Rw w ((wc.setCell ⟨g, o + i, none⟩ (.int .u64 (G (a + t) : Int))).setCell ⟨g, o + (a + t), none⟩ (.int .u64 (G i : Int))).drew g o (Sort.swp di i (a + t))) := by
              rw [HG.out, HG.out]
              exact H2.out.1.swap (by rw [HSZ.out]; omega) (by rw [HSZ.out]; omega) 1
            have HSB : Hid (Box ((wc.setCell ⟨g, o + i, none⟩ (.int .u64 (G (a + t) : Int))).setCell ⟨g, o + (a + t), none⟩ (.int .u64 (G i : Int))).drew w.heap.size 312 #[.int .u64 (y : Int)]) := (H2.out.2.other (Nat.ne_of_gt HW.out.2.2.2) _ _).other (Nat.ne_of_gt HW.out.2.2.2) _ _
            go_wp2_with fail
            go_region
            all_goals go_wp2_with fail
            go_roundg (a + 2 * q + 2 - (i + 1))
            case measure => omega
            case rel => exact ⟨i + 1, y, Sort.swp di i (a + t), by go_num, by omega, by omega, by omega, HSW.out, HSB.out, Sort.permIn_trans _ _ _ _ _ HI.out.2.2 (Sort.swp_permIn _ _ _ _ _ (by omega) (by omega) (by omega) (by omega) (by rw [HSZ.out]; omega))⟩
    · have hleI : ¬ (i : Int) ≤ (a : Int) + (q : Int) * 2 + 1 := by omega
      go_wp2_with (simp only [hqI])
      go_end0
      exact ⟨rfl, di, HI.out.1, HI.out.2.2⟩
end Go.Proofs.YtmlfbihlbiikeaaGreatDoor
