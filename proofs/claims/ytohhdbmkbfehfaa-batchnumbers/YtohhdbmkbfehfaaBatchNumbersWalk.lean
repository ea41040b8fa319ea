/- staddlelaw03.BatchNumbers returns true, for every argument, and leaves memory as it was. -/
import Derived.Test.YtohhdbmkbfehfaaAwake3
import Derived.Test.YtohhdbmkbfehfaaPlainBJoin
import Derived.Test.YtohhdbmkbfehfaaSliceFrom
namespace Go.Proofs.Ytohhdbmkbfehfaa
open Go.RowKit
set_option maxRecDepth 100000 in
set_option maxHeartbeats 1000000 in
theorem batchNumbers_no (q r : Nat) (a2 : Option Addr) (len2 cap2 : Nat) (b2 : List Opn) (X Y Z : List UInt8) (ca cb cz : Nat) (w : World) (_hq : q < 18446744073709551616) (_hr : r < 18446744073709551616) (H1 : Hid (OpsAt w a2 len2 cap2 b2))
    (HX : Hid (∀ W a n c, OpsAt W a n c b2 → Calls Try.prog 10 #[.int .u64 (q : Int), .slice a n c] W fun e w' => ∃ a' c', e = .returned (.tuple #[.slice a' X.length c', .int .i64 ((ca : Nat) : Int)]) ∧ BsAt w' a' X.length c' X ∧ Below W.heap.size W w'))
    (HY : Hid (∀ W a n c, OpsAt W a n c b2 → Calls Try.prog 10 #[.int .u64 (r : Int), .slice a n c] W fun e w' => ∃ a' c', e = .returned (.tuple #[.slice a' Y.length c', .int .i64 ((cb : Nat) : Int)]) ∧ BsAt w' a' Y.length c' Y ∧ Below W.heap.size W w'))
    (HZ : Hid (∀ W a n c, OpsAt W a n c b2 → Calls Try.prog 10 #[.int .u64 0, .slice a n c] W fun e w' => ∃ a' c', e = .returned (.tuple #[.slice a' Z.length c', .int .i64 ((cz : Nat) : Int)]) ∧ BsAt w' a' Z.length c' Z ∧ Below W.heap.size W w'))
    (h0 : cz ≠ 0) (h1 : ca ≠ 0) (h2 : cb ≠ 0) :
    Calls Try.prog 8 #[.int .u64 (q : Int), .int .u64 (r : Int), .slice a2 len2 cap2] w fun e w' => e = .returned (.bool true) ∧ Below w.heap.size w w' := by
  have h0' : ((cz : Int) != 0) = true := by simp; omega
  have h1' : ((ca : Int) != 0) = true := by simp; omega
  have h2' : ((cb : Int) != 0) = true := by simp; omega
  go_enter Try.func8, Try.ntmps8
  go_wp2_with fail
  refine (awake_any _).mono ?_
  rintro e v1 ⟨rfl, hb1⟩
  have HB1 : Hid (Below w.heap.size w v1) := hb1
  clear hb1
  go_wp2_with fail
  refine (HX.out _ _ _ _ (H1.out.below (Nat.le_refl _) HB1.out)).mono ?_
  rintro e v2 ⟨aX, cX, rfl, hX, hb2⟩
  have HB2 : Hid (Below w.heap.size w v2) := HB1.out.trans (hb2.mono HB1.out.size)
  have HX2 : Hid (BsAt v2 aX X.length cX X) := hX
  clear hb2 hX HB1
  go_wp2_with fail
  refine (HY.out _ _ _ _ (H1.out.below (Nat.le_refl _) HB2.out)).mono ?_
  rintro e v3 ⟨aY, cY, rfl, hY, hb3⟩
  have HB3 : Hid (Below w.heap.size w v3) := HB2.out.trans (hb3.mono HB2.out.size)
  have HX3 : Hid (BsAt v3 aX X.length cX X) := HX2.out.below (Nat.le_refl _) hb3
  have HY3 : Hid (BsAt v3 aY Y.length cY Y) := hY
  clear hb3 hY HB2 HX2
  go_wp2_with fail
  refine (HZ.out _ _ _ _ (H1.out.below (Nat.le_refl _) HB3.out)).mono ?_
  rintro e v4 ⟨aZ, cZ, rfl, _, hb4⟩
  have HB4 : Hid (Below w.heap.size w v4) := HB3.out.trans (hb4.mono HB3.out.size)
  have HX4 : Hid (BsAt v4 aX X.length cX X) := HX3.out.below (Nat.le_refl _) hb4
  have HY4 : Hid (BsAt v4 aY Y.length cY Y) := HY3.out.below (Nat.le_refl _) hb4
  clear hb4 HB3 HX3 HY3
  go_wp2_with fail
  go_ret
  exact ⟨ret1 (by simp), HB4.out⟩
set_option maxRecDepth 100000 in
set_option maxHeartbeats 1000000 in
theorem batchNumbers_bad (q r : Nat) (a2 : Option Addr) (len2 cap2 : Nat) (b2 : List Opn) (X Y Z : List UInt8) (ca cb cz : Nat) (w : World) (hq : q < 18446744073709551616) (_hr : r < 18446744073709551616) (H1 : Hid (OpsAt w a2 len2 cap2 b2))
    (HX : Hid (∀ W a n c, OpsAt W a n c b2 → Calls Try.prog 10 #[.int .u64 (q : Int), .slice a n c] W fun e w' => ∃ a' c', e = .returned (.tuple #[.slice a' X.length c', .int .i64 ((ca : Nat) : Int)]) ∧ BsAt w' a' X.length c' X ∧ Below W.heap.size W w'))
    (HY : Hid (∀ W a n c, OpsAt W a n c b2 → Calls Try.prog 10 #[.int .u64 (r : Int), .slice a n c] W fun e w' => ∃ a' c', e = .returned (.tuple #[.slice a' Y.length c', .int .i64 ((cb : Nat) : Int)]) ∧ BsAt w' a' Y.length c' Y ∧ Below W.heap.size W w'))
    (HZ : Hid (∀ W a n c, OpsAt W a n c b2 → Calls Try.prog 10 #[.int .u64 0, .slice a n c] W fun e w' => ∃ a' c', e = .returned (.tuple #[.slice a' Z.length c', .int .i64 ((cz : Nat) : Int)]) ∧ BsAt w' a' Z.length c' Z ∧ Below W.heap.size W w'))
    (h0 : cz = 0) (hn : len2 ≤ 64) (h1 : ca = 22) (hg : ¬ q ≤ 72057594037927935 - (len2 - 1)) :
    Calls Try.prog 8 #[.int .u64 (q : Int), .int .u64 (r : Int), .slice a2 len2 cap2] w fun e w' => e = .returned (.bool true) ∧ Below w.heap.size w w' := by
  subst h0 h1
  by_cases hp : 0 < len2
  · obtain ⟨k, rfl⟩ : ∃ k, len2 = k + 1 := ⟨len2 - 1, by omega⟩
    have hg1 : ¬ (q : Int) ≤ 72057594037927935 - (k : Int) := by omega
    go_enter Try.func8, Try.ntmps8
    go_wp2_with fail
    refine (awake_any _).mono ?_
    rintro e v1 ⟨rfl, hb1⟩
    have HB1 : Hid (Below w.heap.size w v1) := hb1
    clear hb1
    go_wp2_with fail
    refine (HX.out _ _ _ _ (H1.out.below (Nat.le_refl _) HB1.out)).mono ?_
    rintro e v2 ⟨aX, cX, rfl, hX, hb2⟩
    have HB2 : Hid (Below w.heap.size w v2) := HB1.out.trans (hb2.mono HB1.out.size)
    have HX2 : Hid (BsAt v2 aX X.length cX X) := hX
    clear hb2 hX HB1
    go_wp2_with fail
    refine (HY.out _ _ _ _ (H1.out.below (Nat.le_refl _) HB2.out)).mono ?_
    rintro e v3 ⟨aY, cY, rfl, hY, hb3⟩
    have HB3 : Hid (Below w.heap.size w v3) := HB2.out.trans (hb3.mono HB2.out.size)
    have HX3 : Hid (BsAt v3 aX X.length cX X) := HX2.out.below (Nat.le_refl _) hb3
    have HY3 : Hid (BsAt v3 aY Y.length cY Y) := hY
    clear hb3 hY HB2 HX2
    go_wp2_with fail
    refine (HZ.out _ _ _ _ (H1.out.below (Nat.le_refl _) HB3.out)).mono ?_
    rintro e v4 ⟨aZ, cZ, rfl, _, hb4⟩
    have HB4 : Hid (Below w.heap.size w v4) := HB3.out.trans (hb4.mono HB3.out.size)
    have HX4 : Hid (BsAt v4 aX X.length cX X) := HX3.out.below (Nat.le_refl _) hb4
    have HY4 : Hid (BsAt v4 aY Y.length cY Y) := HY3.out.below (Nat.le_refl _) hb4
    clear hb4 HB3 HX3 HY3
    go_wp2_with fail
    go_ret
    exact ⟨ret1 (by simp), HB4.out⟩
  · obtain rfl : len2 = 0 := by omega
    have hg1 : ¬ (q : Int) ≤ 72057594037927935 := by omega
    go_enter Try.func8, Try.ntmps8
    go_wp2_with fail
    refine (awake_any _).mono ?_
    rintro e v1 ⟨rfl, hb1⟩
    have HB1 : Hid (Below w.heap.size w v1) := hb1
    clear hb1
    go_wp2_with fail
    refine (HX.out _ _ _ _ (H1.out.below (Nat.le_refl _) HB1.out)).mono ?_
    rintro e v2 ⟨aX, cX, rfl, hX, hb2⟩
    have HB2 : Hid (Below w.heap.size w v2) := HB1.out.trans (hb2.mono HB1.out.size)
    have HX2 : Hid (BsAt v2 aX X.length cX X) := hX
    clear hb2 hX HB1
    go_wp2_with fail
    refine (HY.out _ _ _ _ (H1.out.below (Nat.le_refl _) HB2.out)).mono ?_
    rintro e v3 ⟨aY, cY, rfl, hY, hb3⟩
    have HB3 : Hid (Below w.heap.size w v3) := HB2.out.trans (hb3.mono HB2.out.size)
    have HX3 : Hid (BsAt v3 aX X.length cX X) := HX2.out.below (Nat.le_refl _) hb3
    have HY3 : Hid (BsAt v3 aY Y.length cY Y) := hY
    clear hb3 hY HB2 HX2
    go_wp2_with fail
    refine (HZ.out _ _ _ _ (H1.out.below (Nat.le_refl _) HB3.out)).mono ?_
    rintro e v4 ⟨aZ, cZ, rfl, _, hb4⟩
    have HB4 : Hid (Below w.heap.size w v4) := HB3.out.trans (hb4.mono HB3.out.size)
    have HX4 : Hid (BsAt v4 aX X.length cX X) := HX3.out.below (Nat.le_refl _) hb4
    have HY4 : Hid (BsAt v4 aY Y.length cY Y) := HY3.out.below (Nat.le_refl _) hb4
    clear hb4 HB3 HX3 HY3
    go_wp2_with fail
    go_ret
    exact ⟨ret1 (by simp), HB4.out⟩
set_option maxRecDepth 100000 in
set_option maxHeartbeats 1000000 in
theorem batchNumbers_half (q r : Nat) (a2 : Option Addr) (len2 cap2 : Nat) (b2 : List Opn) (X Y Z : List UInt8) (ca cb cz : Nat) (w : World) (hq : q < 18446744073709551616) (_hr : r < 18446744073709551616) (H1 : Hid (OpsAt w a2 len2 cap2 b2))
    (HX : Hid (∀ W a n c, OpsAt W a n c b2 → Calls Try.prog 10 #[.int .u64 (q : Int), .slice a n c] W fun e w' => ∃ a' c', e = .returned (.tuple #[.slice a' X.length c', .int .i64 ((ca : Nat) : Int)]) ∧ BsAt w' a' X.length c' X ∧ Below W.heap.size W w'))
    (HY : Hid (∀ W a n c, OpsAt W a n c b2 → Calls Try.prog 10 #[.int .u64 (r : Int), .slice a n c] W fun e w' => ∃ a' c', e = .returned (.tuple #[.slice a' Y.length c', .int .i64 ((cb : Nat) : Int)]) ∧ BsAt w' a' Y.length c' Y ∧ Below W.heap.size W w'))
    (HZ : Hid (∀ W a n c, OpsAt W a n c b2 → Calls Try.prog 10 #[.int .u64 0, .slice a n c] W fun e w' => ∃ a' c', e = .returned (.tuple #[.slice a' Z.length c', .int .i64 ((cz : Nat) : Int)]) ∧ BsAt w' a' Z.length c' Z ∧ Below W.heap.size W w'))
    (h0 : cz = 0) (hn : len2 ≤ 64) (h1 : ca = 0) (hg : q ≤ 72057594037927935 - (len2 - 1)) (h2 : cb ≠ 0) :
    Calls Try.prog 8 #[.int .u64 (q : Int), .int .u64 (r : Int), .slice a2 len2 cap2] w fun e w' => e = .returned (.bool true) ∧ Below w.heap.size w w' := by
  subst h0 h1
  have h2' : ((cb : Int) != 0) = true := by simp; omega
  by_cases hp : 0 < len2
  · obtain ⟨k, rfl⟩ : ∃ k, len2 = k + 1 := ⟨len2 - 1, by omega⟩
    have hg1 : (q : Int) ≤ 72057594037927935 - (k : Int) := by omega
    go_enter Try.func8, Try.ntmps8
    go_wp2_with fail
    refine (awake_any _).mono ?_
    rintro e v1 ⟨rfl, hb1⟩
    have HB1 : Hid (Below w.heap.size w v1) := hb1
    clear hb1
    go_wp2_with fail
    refine (HX.out _ _ _ _ (H1.out.below (Nat.le_refl _) HB1.out)).mono ?_
    rintro e v2 ⟨aX, cX, rfl, hX, hb2⟩
    have HB2 : Hid (Below w.heap.size w v2) := HB1.out.trans (hb2.mono HB1.out.size)
    have HX2 : Hid (BsAt v2 aX X.length cX X) := hX
    clear hb2 hX HB1
    go_wp2_with fail
    refine (HY.out _ _ _ _ (H1.out.below (Nat.le_refl _) HB2.out)).mono ?_
    rintro e v3 ⟨aY, cY, rfl, hY, hb3⟩
    have HB3 : Hid (Below w.heap.size w v3) := HB2.out.trans (hb3.mono HB2.out.size)
    have HX3 : Hid (BsAt v3 aX X.length cX X) := HX2.out.below (Nat.le_refl _) hb3
    have HY3 : Hid (BsAt v3 aY Y.length cY Y) := hY
    clear hb3 hY HB2 HX2
    go_wp2_with fail
    refine (HZ.out _ _ _ _ (H1.out.below (Nat.le_refl _) HB3.out)).mono ?_
    rintro e v4 ⟨aZ, cZ, rfl, _, hb4⟩
    have HB4 : Hid (Below w.heap.size w v4) := HB3.out.trans (hb4.mono HB3.out.size)
    have HX4 : Hid (BsAt v4 aX X.length cX X) := HX3.out.below (Nat.le_refl _) hb4
    have HY4 : Hid (BsAt v4 aY Y.length cY Y) := HY3.out.below (Nat.le_refl _) hb4
    clear hb4 HB3 HX3 HY3
    go_wp2_with fail
    go_ret
    exact ⟨ret1 (by simp), HB4.out⟩
  · obtain rfl : len2 = 0 := by omega
    have hg1 : (q : Int) ≤ 72057594037927935 := by omega
    go_enter Try.func8, Try.ntmps8
    go_wp2_with fail
    refine (awake_any _).mono ?_
    rintro e v1 ⟨rfl, hb1⟩
    have HB1 : Hid (Below w.heap.size w v1) := hb1
    clear hb1
    go_wp2_with fail
    refine (HX.out _ _ _ _ (H1.out.below (Nat.le_refl _) HB1.out)).mono ?_
    rintro e v2 ⟨aX, cX, rfl, hX, hb2⟩
    have HB2 : Hid (Below w.heap.size w v2) := HB1.out.trans (hb2.mono HB1.out.size)
    have HX2 : Hid (BsAt v2 aX X.length cX X) := hX
    clear hb2 hX HB1
    go_wp2_with fail
    refine (HY.out _ _ _ _ (H1.out.below (Nat.le_refl _) HB2.out)).mono ?_
    rintro e v3 ⟨aY, cY, rfl, hY, hb3⟩
    have HB3 : Hid (Below w.heap.size w v3) := HB2.out.trans (hb3.mono HB2.out.size)
    have HX3 : Hid (BsAt v3 aX X.length cX X) := HX2.out.below (Nat.le_refl _) hb3
    have HY3 : Hid (BsAt v3 aY Y.length cY Y) := hY
    clear hb3 hY HB2 HX2
    go_wp2_with fail
    refine (HZ.out _ _ _ _ (H1.out.below (Nat.le_refl _) HB3.out)).mono ?_
    rintro e v4 ⟨aZ, cZ, rfl, _, hb4⟩
    have HB4 : Hid (Below w.heap.size w v4) := HB3.out.trans (hb4.mono HB3.out.size)
    have HX4 : Hid (BsAt v4 aX X.length cX X) := HX3.out.below (Nat.le_refl _) hb4
    have HY4 : Hid (BsAt v4 aY Y.length cY Y) := HY3.out.below (Nat.le_refl _) hb4
    clear hb4 HB3 HX3 HY3
    go_wp2_with fail
    go_ret
    exact ⟨ret1 (by simp), HB4.out⟩
set_option maxRecDepth 100000 in
set_option maxHeartbeats 4000000 in
theorem batchNumbers_good (q r : Nat) (a2 : Option Addr) (len2 cap2 : Nat) (b2 : List Opn) (X Y Z : List UInt8) (ca cb cz : Nat) (w : World) (hq : q < 18446744073709551616) (_hr : r < 18446744073709551616) (H1 : Hid (OpsAt w a2 len2 cap2 b2))
    (HX : Hid (∀ W a n c, OpsAt W a n c b2 → Calls Try.prog 10 #[.int .u64 (q : Int), .slice a n c] W fun e w' => ∃ a' c', e = .returned (.tuple #[.slice a' X.length c', .int .i64 ((ca : Nat) : Int)]) ∧ BsAt w' a' X.length c' X ∧ Below W.heap.size W w'))
    (HY : Hid (∀ W a n c, OpsAt W a n c b2 → Calls Try.prog 10 #[.int .u64 (r : Int), .slice a n c] W fun e w' => ∃ a' c', e = .returned (.tuple #[.slice a' Y.length c', .int .i64 ((cb : Nat) : Int)]) ∧ BsAt w' a' Y.length c' Y ∧ Below W.heap.size W w'))
    (HZ : Hid (∀ W a n c, OpsAt W a n c b2 → Calls Try.prog 10 #[.int .u64 0, .slice a n c] W fun e w' => ∃ a' c', e = .returned (.tuple #[.slice a' Z.length c', .int .i64 ((cz : Nat) : Int)]) ∧ BsAt w' a' Z.length c' Z ∧ Below W.heap.size W w'))
    (h0 : cz = 0) (hn : len2 ≤ 64) (h1 : ca = 0) (hg : q ≤ 72057594037927935 - (len2 - 1)) (h2 : cb = 0) (hlX : 12 ≤ X.length) (hlY : 12 ≤ Y.length)
    (HE8 : Hid (X.drop 8 = Y.drop 8)) (HT8 : Hid (((strOf (X.take 8)).toList == (strOf (Y.take 8)).toList) = ((q : Int) == (r : Int)))) :
    Calls Try.prog 8 #[.int .u64 (q : Int), .int .u64 (r : Int), .slice a2 len2 cap2] w fun e w' => e = .returned (.bool true) ∧ Below w.heap.size w w' := by
  subst h0 h1 h2
  by_cases hp : 0 < len2
  · obtain ⟨k, rfl⟩ : ∃ k, len2 = k + 1 := ⟨len2 - 1, by omega⟩
    have hg1 : (q : Int) ≤ 72057594037927935 - (k : Int) := by omega
    go_enter Try.func8, Try.ntmps8
    go_wp2_with fail
    refine (awake_any _).mono ?_
    rintro e v1 ⟨rfl, hb1⟩
    have HB1 : Hid (Below w.heap.size w v1) := hb1
    clear hb1
    go_wp2_with fail
    refine (HX.out _ _ _ _ (H1.out.below (Nat.le_refl _) HB1.out)).mono ?_
    rintro e v2 ⟨aX, cX, rfl, hX, hb2⟩
    have HB2 : Hid (Below w.heap.size w v2) := HB1.out.trans (hb2.mono HB1.out.size)
    have HX2 : Hid (BsAt v2 aX X.length cX X) := hX
    clear hb2 hX HB1
    go_wp2_with fail
    refine (HY.out _ _ _ _ (H1.out.below (Nat.le_refl _) HB2.out)).mono ?_
    rintro e v3 ⟨aY, cY, rfl, hY, hb3⟩
    have HB3 : Hid (Below w.heap.size w v3) := HB2.out.trans (hb3.mono HB2.out.size)
    have HX3 : Hid (BsAt v3 aX X.length cX X) := HX2.out.below (Nat.le_refl _) hb3
    have HY3 : Hid (BsAt v3 aY Y.length cY Y) := hY
    clear hb3 hY HB2 HX2
    go_wp2_with fail
    refine (HZ.out _ _ _ _ (H1.out.below (Nat.le_refl _) HB3.out)).mono ?_
    rintro e v4 ⟨aZ, cZ, rfl, _, hb4⟩
    have HB4 : Hid (Below w.heap.size w v4) := HB3.out.trans (hb4.mono HB3.out.size)
    have HX4 : Hid (BsAt v4 aX X.length cX X) := HX3.out.below (Nat.le_refl _) hb4
    have HY4 : Hid (BsAt v4 aY Y.length cY Y) := HY3.out.below (Nat.le_refl _) hb4
    clear hb4 HB3 HX3 HY3
    have hlx := HX4.out.le
    have hly := HY4.out.le
    obtain ⟨gX, oX, rfl, _⟩ := HX4.out.here (by omega)
    obtain ⟨gY, oY, rfl, _⟩ := HY4.out.here (by omega)
    obtain ⟨pX, sX, bX⟩ := slice_from gX oX X.length cX 8 (by omega) hlx
    obtain ⟨pY, sY, bY⟩ := slice_from gY oY Y.length cY 8 (by omega) hly
    have sX : ∀ W : World, (Instr.slice 25 (.slice (some ⟨gX, oX, none⟩) X.length cX) (some (.int .i64 8)) none none).run Try.prog W = .ok (.slice (some ⟨gX, pX, none⟩) (X.length - 8) (cX - 8)) W := sX
    have sY : ∀ W : World, (Instr.slice 25 (.slice (some ⟨gY, oY, none⟩) Y.length cY) (some (.int .i64 8)) none none).run Try.prog W = .ok (.slice (some ⟨gY, pY, none⟩) (Y.length - 8) (cY - 8)) W := sY
    have t1 := conv_of (bX _ _ HX4.out).drew
    have t2 := conv_of (bY _ _ HY4.out).drew
    have t3 := conv_of (HX4.out.upTo 8 (by omega)).drew
    have t4 := conv_of (HY4.out.upTo 8 (by omega)).drew
    have hE8 := HE8.out
    have hT8 := HT8.out
    have cX8 : 8 ≤ cX := by omega
    have cY8 : 8 ≤ cY := by omega
    rw [← hE8] at t2
    generalize strOf (X.drop 8) = S1 at t1 t2
    generalize strOf (X.take 8) = S2 at t3 hT8
    generalize strOf (Y.take 8) = S3 at t4 hT8
    clear bX bY hE8
    go_wp2_with fail
    go_region
    all_goals
      go_wp2_with fail
      go_ret
      exact ⟨ret1 (by simp), HB4.out.drew⟩
  · obtain rfl : len2 = 0 := by omega
    have hg1 : (q : Int) ≤ 72057594037927935 := by omega
    go_enter Try.func8, Try.ntmps8
    go_wp2_with fail
    refine (awake_any _).mono ?_
    rintro e v1 ⟨rfl, hb1⟩
    have HB1 : Hid (Below w.heap.size w v1) := hb1
    clear hb1
    go_wp2_with fail
    refine (HX.out _ _ _ _ (H1.out.below (Nat.le_refl _) HB1.out)).mono ?_
    rintro e v2 ⟨aX, cX, rfl, hX, hb2⟩
    have HB2 : Hid (Below w.heap.size w v2) := HB1.out.trans (hb2.mono HB1.out.size)
    have HX2 : Hid (BsAt v2 aX X.length cX X) := hX
    clear hb2 hX HB1
    go_wp2_with fail
    refine (HY.out _ _ _ _ (H1.out.below (Nat.le_refl _) HB2.out)).mono ?_
    rintro e v3 ⟨aY, cY, rfl, hY, hb3⟩
    have HB3 : Hid (Below w.heap.size w v3) := HB2.out.trans (hb3.mono HB2.out.size)
    have HX3 : Hid (BsAt v3 aX X.length cX X) := HX2.out.below (Nat.le_refl _) hb3
    have HY3 : Hid (BsAt v3 aY Y.length cY Y) := hY
    clear hb3 hY HB2 HX2
    go_wp2_with fail
    refine (HZ.out _ _ _ _ (H1.out.below (Nat.le_refl _) HB3.out)).mono ?_
    rintro e v4 ⟨aZ, cZ, rfl, _, hb4⟩
    have HB4 : Hid (Below w.heap.size w v4) := HB3.out.trans (hb4.mono HB3.out.size)
    have HX4 : Hid (BsAt v4 aX X.length cX X) := HX3.out.below (Nat.le_refl _) hb4
    have HY4 : Hid (BsAt v4 aY Y.length cY Y) := HY3.out.below (Nat.le_refl _) hb4
    clear hb4 HB3 HX3 HY3
    have hlx := HX4.out.le
    have hly := HY4.out.le
    obtain ⟨gX, oX, rfl, _⟩ := HX4.out.here (by omega)
    obtain ⟨gY, oY, rfl, _⟩ := HY4.out.here (by omega)
    obtain ⟨pX, sX, bX⟩ := slice_from gX oX X.length cX 8 (by omega) hlx
    obtain ⟨pY, sY, bY⟩ := slice_from gY oY Y.length cY 8 (by omega) hly
    have sX : ∀ W : World, (Instr.slice 25 (.slice (some ⟨gX, oX, none⟩) X.length cX) (some (.int .i64 8)) none none).run Try.prog W = .ok (.slice (some ⟨gX, pX, none⟩) (X.length - 8) (cX - 8)) W := sX
    have sY : ∀ W : World, (Instr.slice 25 (.slice (some ⟨gY, oY, none⟩) Y.length cY) (some (.int .i64 8)) none none).run Try.prog W = .ok (.slice (some ⟨gY, pY, none⟩) (Y.length - 8) (cY - 8)) W := sY
    have t1 := conv_of (bX _ _ HX4.out).drew
    have t2 := conv_of (bY _ _ HY4.out).drew
    have t3 := conv_of (HX4.out.upTo 8 (by omega)).drew
    have t4 := conv_of (HY4.out.upTo 8 (by omega)).drew
    have hE8 := HE8.out
    have hT8 := HT8.out
    have cX8 : 8 ≤ cX := by omega
    have cY8 : 8 ≤ cY := by omega
    rw [← hE8] at t2
    generalize strOf (X.drop 8) = S1 at t1 t2
    generalize strOf (X.take 8) = S2 at t3 hT8
    generalize strOf (Y.take 8) = S3 at t4 hT8
    clear bX bY hE8
    go_wp2_with fail
    go_region
    all_goals
      go_wp2_with fail
      go_ret
      exact ⟨ret1 (by simp), HB4.out.drew⟩

theorem batchNumbers_walk (a0 : Int) (a1 : Int) (a2 : Option Addr) (len2 cap2 : Nat) (b2 : List Opn) (w : World) (w0 : (Lit.int .u64 a0).wf = true) (w1 : (Lit.int .u64 a1).wf = true) (w2 : OpsAt w a2 len2 cap2 b2) (_f2 : ∀ o ∈ b2, (Lit.int .i64 o.kind).wf = true ∧ o.key.size ≤ maxLen ∧ o.val.size ≤ maxLen) (_e2 : cap2 * 40 ≤ 140737488351232) :
    Calls Try.prog 8 #[.int .u64 a0, .int .u64 a1, .slice a2 len2 cap2] w fun e w' => e = .returned (.bool true) ∧ Below w.heap.size w w' := by
  obtain ⟨q, rfl, hq⟩ : ∃ n : Nat, a0 = (n : Int) ∧ n < 18446744073709551616 := by
    simp [Lit.wf, IntKind.min, IntKind.max, IntKind.bits, IntKind.signed] at w0
    exact ⟨a0.toNat, by omega, by omega⟩
  obtain ⟨r, rfl, hr⟩ : ∃ n : Nat, a1 = (n : Int) ∧ n < 18446744073709551616 := by
    simp [Lit.wf, IntKind.min, IntKind.max, IntKind.bits, IntKind.signed] at w1
    exact ⟨a1.toNat, by omega, by omega⟩
  have hs := w2.size
  have HX := fun W a n c (h : OpsAt W a n c b2) => bencode_any q a n c b2 W hq h
  have HY := fun W a n c (h : OpsAt W a n c b2) => bencode_any r a n c b2 W hr h
  have HZ := fun W a n c (h : OpsAt W a n c b2) => bencode_any 0 a n c b2 W (by omega) h
  by_cases h0 : bchk 0 b2 = 0
  · have ea := bchk_number (q := q) h0
    have eb := bchk_number (q := r) h0
    have hn := (bchk_zero h0).1
    rw [hs] at ea eb hn
    by_cases ga : q ≤ 72057594037927935 - (len2 - 1)
    · rw [if_pos ga] at ea
      by_cases gb : r ≤ 72057594037927935 - (len2 - 1)
      · rw [if_pos gb] at eb
        obtain ⟨n1, n2⟩ := bEnc_numbers ea eb
        refine batchNumbers_good q r a2 len2 cap2 b2 _ _ _ _ _ _ w hq hr w2 HX HY HZ h0 hn ea ga eb (bEnc_parts ea).2.2.2 (bEnc_parts eb).2.2.2 n1 ?_
        unfold Hid
        rw [ByteArray.toList_eq, ByteArray.toList_eq]
        simp only [strOf]
        by_cases hqr : q = r
        · rw [n2.2 hqr, hqr]
          simp
        · have h1 : ¬ (bEnc q b2).take 8 = (bEnc r b2).take 8 := fun e => hqr (n2.1 e)
          have h2 : ((q : Int) == (r : Int)) = false := by simp; omega
          rw [h2]
          simpa using h1
      · rw [if_neg gb] at eb
        exact batchNumbers_half q r a2 len2 cap2 b2 _ _ _ _ _ _ w hq hr w2 HX HY HZ h0 hn ea ga (by rw [eb]; decide)
    · rw [if_neg ga] at ea
      exact batchNumbers_bad q r a2 len2 cap2 b2 _ _ _ _ _ _ w hq hr w2 HX HY HZ h0 hn ea ga
  · exact batchNumbers_no q r a2 len2 cap2 b2 _ _ _ _ _ _ w hq hr w2 HX HY HZ h0 (bchk_nought h0) (bchk_nought h0)
end Go.Proofs.Ytohhdbmkbfehfaa
