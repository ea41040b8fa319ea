/- staddlelaw02.IkeyApart returns true, for every argument, and leaves memory as it was. -/
import Derived.Test.YtleojljcidocjabAwake2
import Derived.Test.YtleojljcidocjabKeyEq
import Derived.Test.YtleojljcidocjabLineFacts
namespace Go.Proofs.Ytleojljcidocjab
open Go.RowKit
set_option maxRecDepth 100000 in
set_option maxHeartbeats 1000000 in
theorem ikeyApart_a (s0 s1 : ByteArray) (q0 q1 : Nat) (k0 k1 C : Int) (X Y : List UInt8) (c0 c1 : Nat) (E : Bool) (w : World) (hc : c0 ≠ 0)
    (hEX : ∀ W, Calls Try.prog 5 #[.agg #[.string s0, .int .u64 (q0 : Int), .int .i64 k0]] W fun e w' => ∃ a' c', e = .returned (.tuple #[.slice a' X.length c', .int .i64 (c0 : Int)]) ∧ BsAt w' a' X.length c' X ∧ Below W.heap.size W w')
    (hEY : ∀ W, Calls Try.prog 5 #[.agg #[.string s1, .int .u64 (q1 : Int), .int .i64 k1]] W fun e w' => ∃ a' c', e = .returned (.tuple #[.slice a' Y.length c', .int .i64 (c1 : Int)]) ∧ BsAt w' a' Y.length c' Y ∧ Below W.heap.size W w')
    (hC : ∀ W, Calls Try.prog 6 #[.agg #[.string s0, .int .u64 (q0 : Int), .int .i64 k0], .agg #[.string s0, .int .u64 (q1 : Int), .int .i64 k1]] W fun e w' => e = .returned (.int .i64 C) ∧ Below W.heap.size W w')
    (_hE : ∀ W, (binOp .eql 24 (.agg #[.string s0, .int .u64 (q0 : Int), .int .i64 k0]) (.agg #[.string s1, .int .u64 (q1 : Int), .int .i64 k1])).run Try.prog W = .ok (.bool E) W) (hXY : True)
    (hq : (q1 < q0 ∧ C = -1) ∨ (q0 < q1 ∧ C = 1) ∨ (q0 = q1 ∧ (C == 0) = (k0 == k1))) :
    Calls Try.prog 3 #[.agg #[.string s0, .int .u64 (q0 : Int), .int .i64 k0], .agg #[.string s1, .int .u64 (q1 : Int), .int .i64 k1]] w fun e w' => e = .returned (.bool true) ∧ Below w.heap.size w w' := by
  have hc' : ((c0 : Int) == 0) = false := by simp; omega
  have HXY : Hid (True) := hXY
  clear hXY
  go_enter Try.func3, Try.ntmps3
  go_wp2_with fail
  refine (awake_any _).mono ?_
  rintro e v1 ⟨rfl, hb1⟩
  have H1 : Hid (Below w.heap.size w v1) := (((Below.refl _ w).alloc (Nat.le_refl _) _).alloc (by simp) _).trans (hb1.mono (by simp; omega))
  have A1 : Hid (Rec3 v1 w.heap.size (.string s0) (.int .u64 (q0 : Int)) (.int .i64 k0)) := ((Rec3.new w _ rfl _ _ _ _).alloc _).below (Nat.le_refl _) hb1
  have B1 : Hid (Rec3 v1 (w.heap.size + 1) (.string s1) (.int .u64 (q1 : Int)) (.int .i64 k1)) := (Rec3.new _ _ (by simp) _ _ _ _).below (Nat.le_refl _) hb1
  clear hb1
  obtain ⟨p0, p1, p2, _, _, _, pl⟩ := A1.out
  obtain ⟨r0, r1, r2, _, _, _, rl⟩ := B1.out
  go_wp2_with fail
  refine (hEX _).mono ?_
  rintro e v2 ⟨aX, cX, rfl, hX, hb2⟩
  have H2 : Hid (Below w.heap.size w v2) := H1.out.trans (hb2.mono H1.out.size)
  have A2 : Hid (Rec3 v2 w.heap.size (.string s0) (.int .u64 (q0 : Int)) (.int .i64 k0)) := A1.out.below (Nat.le_refl _) hb2
  have B2 : Hid (Rec3 v2 (w.heap.size + 1) (.string s1) (.int .u64 (q1 : Int)) (.int .i64 k1)) := B1.out.below (Nat.le_refl _) hb2
  have X2 : Hid (BsAt v2 aX X.length cX X) := hX
  clear hb2 hX H1 A1 B1 p0 p1 p2 pl r0 r1 r2 rl
  obtain ⟨p0, p1, p2, _, _, _, pl⟩ := A2.out
  obtain ⟨r0, r1, r2, _, _, _, rl⟩ := B2.out
  go_wp2_with fail
  refine (hEY _).mono ?_
  rintro e v3 ⟨aY, cY, rfl, hY, hb3⟩
  have H3 : Hid (Below w.heap.size w v3) := H2.out.trans (hb3.mono H2.out.size)
  have A3 : Hid (Rec3 v3 w.heap.size (.string s0) (.int .u64 (q0 : Int)) (.int .i64 k0)) := A2.out.below (Nat.le_refl _) hb3
  have B3 : Hid (Rec3 v3 (w.heap.size + 1) (.string s1) (.int .u64 (q1 : Int)) (.int .i64 k1)) := B2.out.below (Nat.le_refl _) hb3
  have hcX := conv_of (X2.out.below (Nat.le_refl _) hb3).drew
  have hcY := conv_of hY.drew
  clear hb3 hY H2 A2 B2 X2 p0 p1 p2 pl r0 r1 r2 rl
  obtain ⟨p0, p1, p2, _, _, _, pl⟩ := A3.out
  obtain ⟨r0, r1, r2, g0, g1, g2, rl⟩ := B3.out
  go_wp2_with fail
  go_region
  go_wp2_with fail
  have H4 : Hid (Below w.heap.size w (v3.setCell ⟨w.heap.size + 1, 0, none⟩ (.string s0)).drew) := (H3.out.setCell (by simp) _).drew
  have hz : v3.heap.size ≤ (v3.setCell ⟨w.heap.size + 1, 0, none⟩ (.string s0)).drew.heap.size := ((Below.refl 0 v3).setCell (Nat.zero_le _) _).drew.size
  refine (hC _).mono ?_
  rintro e v4 ⟨rfl, hb4⟩
  have n1 : v4.cell? ⟨w.heap.size, 1, none⟩ = some (.int .u64 (q0 : Int)) := by
    rw [hb4.cell (show w.heap.size < _ by omega)]
    show (v3.setCell ⟨w.heap.size + 1, 0, none⟩ (.string s0)).cell? _ = _
    rw [World.cell?_setCell_other _ _ _ _ (by simp)]
    exact p1
  have n2 : v4.cell? ⟨w.heap.size, 2, none⟩ = some (.int .i64 k0) := by
    rw [hb4.cell (show w.heap.size < _ by omega)]
    show (v3.setCell ⟨w.heap.size + 1, 0, none⟩ (.string s0)).cell? _ = _
    rw [World.cell?_setCell_other _ _ _ _ (by simp)]
    exact p2
  have m1 : v4.cell? ⟨w.heap.size + 1, 1, none⟩ = some (.int .u64 (q1 : Int)) := by
    rw [hb4.cell (show w.heap.size + 1 < _ by omega)]
    show (v3.setCell ⟨w.heap.size + 1, 0, none⟩ (.string s0)).cell? _ = _
    rw [World.cell?_setCell_other _ _ _ _ (by simp)]
    exact r1
  have m2 : v4.cell? ⟨w.heap.size + 1, 2, none⟩ = some (.int .i64 k1) := by
    rw [hb4.cell (show w.heap.size + 1 < _ by omega)]
    show (v3.setCell ⟨w.heap.size + 1, 0, none⟩ (.string s0)).cell? _ = _
    rw [World.cell?_setCell_other _ _ _ _ (by simp)]
    exact r2
  have H5 : Hid (Below w.heap.size w v4) := H4.out.trans (hb4.mono H4.out.size)
  clear hb4 hz H4 A3 B3 hcX hcY _hE
  rcases hq with ⟨hlt, rfl⟩ | ⟨hlt, rfl⟩ | ⟨rfl, hk⟩
  · go_wp2_with fail
    go_ret
    exact ⟨ret1 rfl, H5.out⟩
  · go_wp2_with fail
    go_ret
    exact ⟨ret1 rfl, H5.out⟩
  · go_wp2_with fail
    go_ret
    exact ⟨ret1 (by simp), H5.out⟩
set_option maxRecDepth 100000 in
set_option maxHeartbeats 1000000 in
theorem ikeyApart_b (s0 s1 : ByteArray) (q0 q1 : Nat) (k0 k1 C : Int) (X Y : List UInt8) (c0 c1 : Nat) (E : Bool) (w : World) (hc : c0 = 0) (hd : c1 ≠ 0)
    (hEX : ∀ W, Calls Try.prog 5 #[.agg #[.string s0, .int .u64 (q0 : Int), .int .i64 k0]] W fun e w' => ∃ a' c', e = .returned (.tuple #[.slice a' X.length c', .int .i64 (c0 : Int)]) ∧ BsAt w' a' X.length c' X ∧ Below W.heap.size W w')
    (hEY : ∀ W, Calls Try.prog 5 #[.agg #[.string s1, .int .u64 (q1 : Int), .int .i64 k1]] W fun e w' => ∃ a' c', e = .returned (.tuple #[.slice a' Y.length c', .int .i64 (c1 : Int)]) ∧ BsAt w' a' Y.length c' Y ∧ Below W.heap.size W w')
    (hC : ∀ W, Calls Try.prog 6 #[.agg #[.string s0, .int .u64 (q0 : Int), .int .i64 k0], .agg #[.string s0, .int .u64 (q1 : Int), .int .i64 k1]] W fun e w' => e = .returned (.int .i64 C) ∧ Below W.heap.size W w')
    (_hE : ∀ W, (binOp .eql 24 (.agg #[.string s0, .int .u64 (q0 : Int), .int .i64 k0]) (.agg #[.string s1, .int .u64 (q1 : Int), .int .i64 k1])).run Try.prog W = .ok (.bool E) W) (hXY : True)
    (hq : (q1 < q0 ∧ C = -1) ∨ (q0 < q1 ∧ C = 1) ∨ (q0 = q1 ∧ (C == 0) = (k0 == k1))) :
    Calls Try.prog 3 #[.agg #[.string s0, .int .u64 (q0 : Int), .int .i64 k0], .agg #[.string s1, .int .u64 (q1 : Int), .int .i64 k1]] w fun e w' => e = .returned (.bool true) ∧ Below w.heap.size w w' := by
  obtain rfl := hc
  have hd' : ((c1 : Int) == 0) = false := by simp; omega
  have HXY : Hid (True) := hXY
  clear hXY
  go_enter Try.func3, Try.ntmps3
  go_wp2_with fail
  refine (awake_any _).mono ?_
  rintro e v1 ⟨rfl, hb1⟩
  have H1 : Hid (Below w.heap.size w v1) := (((Below.refl _ w).alloc (Nat.le_refl _) _).alloc (by simp) _).trans (hb1.mono (by simp; omega))
  have A1 : Hid (Rec3 v1 w.heap.size (.string s0) (.int .u64 (q0 : Int)) (.int .i64 k0)) := ((Rec3.new w _ rfl _ _ _ _).alloc _).below (Nat.le_refl _) hb1
  have B1 : Hid (Rec3 v1 (w.heap.size + 1) (.string s1) (.int .u64 (q1 : Int)) (.int .i64 k1)) := (Rec3.new _ _ (by simp) _ _ _ _).below (Nat.le_refl _) hb1
  clear hb1
  obtain ⟨p0, p1, p2, _, _, _, pl⟩ := A1.out
  obtain ⟨r0, r1, r2, _, _, _, rl⟩ := B1.out
  go_wp2_with fail
  refine (hEX _).mono ?_
  rintro e v2 ⟨aX, cX, rfl, hX, hb2⟩
  have H2 : Hid (Below w.heap.size w v2) := H1.out.trans (hb2.mono H1.out.size)
  have A2 : Hid (Rec3 v2 w.heap.size (.string s0) (.int .u64 (q0 : Int)) (.int .i64 k0)) := A1.out.below (Nat.le_refl _) hb2
  have B2 : Hid (Rec3 v2 (w.heap.size + 1) (.string s1) (.int .u64 (q1 : Int)) (.int .i64 k1)) := B1.out.below (Nat.le_refl _) hb2
  have X2 : Hid (BsAt v2 aX X.length cX X) := hX
  clear hb2 hX H1 A1 B1 p0 p1 p2 pl r0 r1 r2 rl
  obtain ⟨p0, p1, p2, _, _, _, pl⟩ := A2.out
  obtain ⟨r0, r1, r2, _, _, _, rl⟩ := B2.out
  go_wp2_with fail
  refine (hEY _).mono ?_
  rintro e v3 ⟨aY, cY, rfl, hY, hb3⟩
  have H3 : Hid (Below w.heap.size w v3) := H2.out.trans (hb3.mono H2.out.size)
  have A3 : Hid (Rec3 v3 w.heap.size (.string s0) (.int .u64 (q0 : Int)) (.int .i64 k0)) := A2.out.below (Nat.le_refl _) hb3
  have B3 : Hid (Rec3 v3 (w.heap.size + 1) (.string s1) (.int .u64 (q1 : Int)) (.int .i64 k1)) := B2.out.below (Nat.le_refl _) hb3
  have hcX := conv_of (X2.out.below (Nat.le_refl _) hb3).drew
  have hcY := conv_of hY.drew
  clear hb3 hY H2 A2 B2 X2 p0 p1 p2 pl r0 r1 r2 rl
  obtain ⟨p0, p1, p2, _, _, _, pl⟩ := A3.out
  obtain ⟨r0, r1, r2, g0, g1, g2, rl⟩ := B3.out
  go_wp2_with fail
  go_region
  go_wp2_with fail
  have H4 : Hid (Below w.heap.size w (v3.setCell ⟨w.heap.size + 1, 0, none⟩ (.string s0)).drew) := (H3.out.setCell (by simp) _).drew
  have hz : v3.heap.size ≤ (v3.setCell ⟨w.heap.size + 1, 0, none⟩ (.string s0)).drew.heap.size := ((Below.refl 0 v3).setCell (Nat.zero_le _) _).drew.size
  refine (hC _).mono ?_
  rintro e v4 ⟨rfl, hb4⟩
  have n1 : v4.cell? ⟨w.heap.size, 1, none⟩ = some (.int .u64 (q0 : Int)) := by
    rw [hb4.cell (show w.heap.size < _ by omega)]
    show (v3.setCell ⟨w.heap.size + 1, 0, none⟩ (.string s0)).cell? _ = _
    rw [World.cell?_setCell_other _ _ _ _ (by simp)]
    exact p1
  have n2 : v4.cell? ⟨w.heap.size, 2, none⟩ = some (.int .i64 k0) := by
    rw [hb4.cell (show w.heap.size < _ by omega)]
    show (v3.setCell ⟨w.heap.size + 1, 0, none⟩ (.string s0)).cell? _ = _
    rw [World.cell?_setCell_other _ _ _ _ (by simp)]
    exact p2
  have m1 : v4.cell? ⟨w.heap.size + 1, 1, none⟩ = some (.int .u64 (q1 : Int)) := by
    rw [hb4.cell (show w.heap.size + 1 < _ by omega)]
    show (v3.setCell ⟨w.heap.size + 1, 0, none⟩ (.string s0)).cell? _ = _
    rw [World.cell?_setCell_other _ _ _ _ (by simp)]
    exact r1
  have m2 : v4.cell? ⟨w.heap.size + 1, 2, none⟩ = some (.int .i64 k1) := by
    rw [hb4.cell (show w.heap.size + 1 < _ by omega)]
    show (v3.setCell ⟨w.heap.size + 1, 0, none⟩ (.string s0)).cell? _ = _
    rw [World.cell?_setCell_other _ _ _ _ (by simp)]
    exact r2
  have H5 : Hid (Below w.heap.size w v4) := H4.out.trans (hb4.mono H4.out.size)
  clear hb4 hz H4 A3 B3 hcX hcY _hE
  rcases hq with ⟨hlt, rfl⟩ | ⟨hlt, rfl⟩ | ⟨rfl, hk⟩
  · go_wp2_with fail
    go_ret
    exact ⟨ret1 rfl, H5.out⟩
  · go_wp2_with fail
    go_ret
    exact ⟨ret1 rfl, H5.out⟩
  · go_wp2_with fail
    go_ret
    exact ⟨ret1 (by simp), H5.out⟩
set_option maxRecDepth 100000 in
set_option maxHeartbeats 1000000 in
theorem ikeyApart_c (s0 s1 : ByteArray) (q0 q1 : Nat) (k0 k1 C : Int) (X Y : List UInt8) (c0 c1 : Nat) (E : Bool) (w : World) (hc : c0 = 0) (hd : c1 = 0)
    (hEX : ∀ W, Calls Try.prog 5 #[.agg #[.string s0, .int .u64 (q0 : Int), .int .i64 k0]] W fun e w' => ∃ a' c', e = .returned (.tuple #[.slice a' X.length c', .int .i64 (c0 : Int)]) ∧ BsAt w' a' X.length c' X ∧ Below W.heap.size W w')
    (hEY : ∀ W, Calls Try.prog 5 #[.agg #[.string s1, .int .u64 (q1 : Int), .int .i64 k1]] W fun e w' => ∃ a' c', e = .returned (.tuple #[.slice a' Y.length c', .int .i64 (c1 : Int)]) ∧ BsAt w' a' Y.length c' Y ∧ Below W.heap.size W w')
    (hC : ∀ W, Calls Try.prog 6 #[.agg #[.string s0, .int .u64 (q0 : Int), .int .i64 k0], .agg #[.string s0, .int .u64 (q1 : Int), .int .i64 k1]] W fun e w' => e = .returned (.int .i64 C) ∧ Below W.heap.size W w')
    (hE : ∀ W, (binOp .eql 24 (.agg #[.string s0, .int .u64 (q0 : Int), .int .i64 k0]) (.agg #[.string s1, .int .u64 (q1 : Int), .int .i64 k1])).run Try.prog W = .ok (.bool E) W) (hXY : ((strOf X).toList == (strOf Y).toList) = E)
    (hq : (q1 < q0 ∧ C = -1) ∨ (q0 < q1 ∧ C = 1) ∨ (q0 = q1 ∧ (C == 0) = (k0 == k1))) :
    Calls Try.prog 3 #[.agg #[.string s0, .int .u64 (q0 : Int), .int .i64 k0], .agg #[.string s1, .int .u64 (q1 : Int), .int .i64 k1]] w fun e w' => e = .returned (.bool true) ∧ Below w.heap.size w w' := by
  obtain rfl := hc
  obtain rfl := hd
  have HXY : Hid (((strOf X).toList == (strOf Y).toList) = E) := hXY
  clear hXY
  go_enter Try.func3, Try.ntmps3
  go_wp2_with fail
  refine (awake_any _).mono ?_
  rintro e v1 ⟨rfl, hb1⟩
  have H1 : Hid (Below w.heap.size w v1) := (((Below.refl _ w).alloc (Nat.le_refl _) _).alloc (by simp) _).trans (hb1.mono (by simp; omega))
  have A1 : Hid (Rec3 v1 w.heap.size (.string s0) (.int .u64 (q0 : Int)) (.int .i64 k0)) := ((Rec3.new w _ rfl _ _ _ _).alloc _).below (Nat.le_refl _) hb1
  have B1 : Hid (Rec3 v1 (w.heap.size + 1) (.string s1) (.int .u64 (q1 : Int)) (.int .i64 k1)) := (Rec3.new _ _ (by simp) _ _ _ _).below (Nat.le_refl _) hb1
  clear hb1
  obtain ⟨p0, p1, p2, _, _, _, pl⟩ := A1.out
  obtain ⟨r0, r1, r2, _, _, _, rl⟩ := B1.out
  go_wp2_with fail
  refine (hEX _).mono ?_
  rintro e v2 ⟨aX, cX, rfl, hX, hb2⟩
  have H2 : Hid (Below w.heap.size w v2) := H1.out.trans (hb2.mono H1.out.size)
  have A2 : Hid (Rec3 v2 w.heap.size (.string s0) (.int .u64 (q0 : Int)) (.int .i64 k0)) := A1.out.below (Nat.le_refl _) hb2
  have B2 : Hid (Rec3 v2 (w.heap.size + 1) (.string s1) (.int .u64 (q1 : Int)) (.int .i64 k1)) := B1.out.below (Nat.le_refl _) hb2
  have X2 : Hid (BsAt v2 aX X.length cX X) := hX
  clear hb2 hX H1 A1 B1 p0 p1 p2 pl r0 r1 r2 rl
  obtain ⟨p0, p1, p2, _, _, _, pl⟩ := A2.out
  obtain ⟨r0, r1, r2, _, _, _, rl⟩ := B2.out
  go_wp2_with fail
  refine (hEY _).mono ?_
  rintro e v3 ⟨aY, cY, rfl, hY, hb3⟩
  have H3 : Hid (Below w.heap.size w v3) := H2.out.trans (hb3.mono H2.out.size)
  have A3 : Hid (Rec3 v3 w.heap.size (.string s0) (.int .u64 (q0 : Int)) (.int .i64 k0)) := A2.out.below (Nat.le_refl _) hb3
  have B3 : Hid (Rec3 v3 (w.heap.size + 1) (.string s1) (.int .u64 (q1 : Int)) (.int .i64 k1)) := B2.out.below (Nat.le_refl _) hb3
  have hcX := conv_of (X2.out.below (Nat.le_refl _) hb3).drew
  have hcY := conv_of hY.drew
  clear hb3 hY H2 A2 B2 X2 p0 p1 p2 pl r0 r1 r2 rl
  obtain ⟨p0, p1, p2, _, _, _, pl⟩ := A3.out
  obtain ⟨r0, r1, r2, g0, g1, g2, rl⟩ := B3.out
  have hxy := HXY.out
  go_wp2_with fail
  go_region
  go_wp2_with fail
  have H4 : Hid (Below w.heap.size w (v3.setCell ⟨w.heap.size + 1, 0, none⟩ (.string s0)).drew) := (H3.out.setCell (by simp) _).drew
  have hz : v3.heap.size ≤ (v3.setCell ⟨w.heap.size + 1, 0, none⟩ (.string s0)).drew.heap.size := ((Below.refl 0 v3).setCell (Nat.zero_le _) _).drew.size
  refine (hC _).mono ?_
  rintro e v4 ⟨rfl, hb4⟩
  have n1 : v4.cell? ⟨w.heap.size, 1, none⟩ = some (.int .u64 (q0 : Int)) := by
    rw [hb4.cell (show w.heap.size < _ by omega)]
    show (v3.setCell ⟨w.heap.size + 1, 0, none⟩ (.string s0)).cell? _ = _
    rw [World.cell?_setCell_other _ _ _ _ (by simp)]
    exact p1
  have n2 : v4.cell? ⟨w.heap.size, 2, none⟩ = some (.int .i64 k0) := by
    rw [hb4.cell (show w.heap.size < _ by omega)]
    show (v3.setCell ⟨w.heap.size + 1, 0, none⟩ (.string s0)).cell? _ = _
    rw [World.cell?_setCell_other _ _ _ _ (by simp)]
    exact p2
  have m1 : v4.cell? ⟨w.heap.size + 1, 1, none⟩ = some (.int .u64 (q1 : Int)) := by
    rw [hb4.cell (show w.heap.size + 1 < _ by omega)]
    show (v3.setCell ⟨w.heap.size + 1, 0, none⟩ (.string s0)).cell? _ = _
    rw [World.cell?_setCell_other _ _ _ _ (by simp)]
    exact r1
  have m2 : v4.cell? ⟨w.heap.size + 1, 2, none⟩ = some (.int .i64 k1) := by
    rw [hb4.cell (show w.heap.size + 1 < _ by omega)]
    show (v3.setCell ⟨w.heap.size + 1, 0, none⟩ (.string s0)).cell? _ = _
    rw [World.cell?_setCell_other _ _ _ _ (by simp)]
    exact r2
  have H5 : Hid (Below w.heap.size w v4) := H4.out.trans (hb4.mono H4.out.size)
  clear hb4 hz H4 A3 B3 hcX hcY hE
  rcases hq with ⟨hlt, rfl⟩ | ⟨hlt, rfl⟩ | ⟨rfl, hk⟩
  · go_wp2_with fail
    go_ret
    exact ⟨ret1 rfl, H5.out⟩
  · go_wp2_with fail
    go_ret
    exact ⟨ret1 rfl, H5.out⟩
  · go_wp2_with fail
    go_ret
    exact ⟨ret1 (by simp), H5.out⟩

theorem ikeyApart_walk (s0 : ByteArray) (q0 k0 : Int) (s1 : ByteArray) (q1 k1 : Int) (w : World) (e0 : s0.size ≤ 140737488351232) (x0 : (Lit.int .u64 q0).wf = true) (_y0 : (Lit.int .i64 k0).wf = true) (e1 : s1.size ≤ 140737488351232) (x1 : (Lit.int .u64 q1).wf = true) (_y1 : (Lit.int .i64 k1).wf = true) :
    Calls Try.prog 3 #[.agg #[.string s0, .int .u64 q0, .int .i64 k0], .agg #[.string s1, .int .u64 q1, .int .i64 k1]] w fun e w' => e = .returned (.bool true) ∧ Below w.heap.size w w' := by
  obtain ⟨n0, rfl⟩ : ∃ n : Nat, q0 = (n : Int) := by
    simp [Lit.wf, IntKind.min, IntKind.max, IntKind.bits, IntKind.signed] at x0
    exact ⟨q0.toNat, by omega⟩
  obtain ⟨n1, rfl⟩ : ∃ n : Nat, q1 = (n : Int) := by
    simp [Lit.wf, IntKind.min, IntKind.max, IntKind.bits, IntKind.signed] at x1
    exact ⟨q1.toNat, by omega⟩
  have hl0 : s0.data.toList.length = s0.size := by rw [Array.length_toList]; rfl
  have hl1 : s1.data.toList.length = s1.size := by rw [Array.length_toList]; rfl
  have hEX := fun W => encode_any s0 n0 k0 W e0
  have hEY := fun W => encode_any s1 n1 k1 W e1
  have hC := fun W => compare_any s0 s0 (n0 : Int) (n1 : Int) k0 k1 W
  have hE := fun W => run_eql_key s0 s1 (n0 : Int) (n1 : Int) k0 k1 W
  have hq : (n1 < n0 ∧ kcmp s0.toList s0.toList n0 n1 k0 k1 = -1) ∨ (n0 < n1 ∧ kcmp s0.toList s0.toList n0 n1 k0 k1 = 1) ∨ (n0 = n1 ∧ (kcmp s0.toList s0.toList n0 n1 k0 k1 == 0) = (k0 == k1)) := by
    have i1 := icmp_spec (n1 : Int) n0
    have i2 := icmp_spec k1 k0
    have hs := scmp_self s0.toList
    rcases kcmp_spec s0.toList s0.toList n0 n1 k0 k1 with ⟨h, _⟩ | ⟨_, h2, h3⟩ | ⟨_, h2, h3⟩
    · omega
    · omega
    · refine .inr (.inr ⟨by omega, ?_⟩)
      rw [h3]
      rcases i2 with ⟨a, b⟩ | ⟨a, b⟩ | ⟨a, b⟩
      · rw [a]
        have : k0 ≠ k1 := by omega
        simp [this]
      · rw [a, b]
        simp
      · rw [a]
        have : k0 ≠ k1 := by omega
        simp [this]
  by_cases hA : chk s0.size n0 k0 = 0
  · by_cases hB : chk s1.size n1 k1 = 0
    · refine ikeyApart_c s0 s1 n0 n1 k0 k1 _ _ _ _ _ _ w hA hB hEX hEY hC hE ?_ hq
      have b0 := key_back s0.data.toList n0 k0 (by rw [hl0]; exact hA)
      have b1 := key_back s1.data.toList n1 k1 (by rw [hl1]; exact hB)
      have es : ∀ l, (strOf l).toList = l := fun l => by rw [ByteArray.toList_eq]; simp [strOf]
      rw [es, es]
      unfold keyEq
      rw [ByteArray.toList_eq, ByteArray.toList_eq]
      by_cases h : keyEnc s0.data.toList n0 k0 = keyEnc s1.data.toList n1 k1
      · rw [← h] at b1
        have t1 : s0.data.toList = s1.data.toList := b0.1.symm.trans b1.1
        have t2 : n0 = n1 := b0.2.1.symm.trans b1.2.1
        have t3 : k0 = k1 := b0.2.2.1.symm.trans b1.2.2.1
        subst t2 t3
        rw [t1]
        simp
      · have hn : ¬ (s0.data.toList = s1.data.toList ∧ n0 = n1 ∧ k0 = k1) := fun ⟨t1, t2, t3⟩ => h (by rw [t1, t2, t3])
        have l1 : (keyEnc s0.data.toList n0 k0 == keyEnc s1.data.toList n1 k1) = false := by simpa using h
        rw [l1]
        by_cases g : (s0.data.toList == s1.data.toList && ((n0 : Int) == n1 && k0 == k1)) = true
        · exfalso
          rw [Bool.and_eq_true, Bool.and_eq_true, beq_iff_eq, beq_iff_eq, beq_iff_eq] at g
          exact hn ⟨g.1, by omega, g.2.2⟩
        · exact (Bool.eq_false_iff.2 g).symm
    · exact ikeyApart_b s0 s1 n0 n1 k0 k1 _ _ _ _ _ _ w hA hB hEX hEY hC hE trivial hq
  · exact ikeyApart_a s0 s1 n0 n1 k0 k1 _ _ _ _ _ _ w hA hEX hEY hC hE trivial hq
end Go.Proofs.Ytleojljcidocjab
