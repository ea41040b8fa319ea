/- staddlelaw02.IkeyBack returns true, for every argument, and leaves memory as it was. -/
import Derived.Test.YtleojljcidocjaaAwake2
import Derived.Test.YtleojljcidocjaaKeyEq
namespace Go.Proofs.Ytleojljcidocjaa
open Go.RowKit
theorem keyEq_self (s : ByteArray) (q k : Int) : keyEq s s q q k k = true := by simp [keyEq]
theorem strOf_data (s : ByteArray) : strOf s.data.toList = s := by cases s; rfl
set_option maxRecDepth 100000 in
set_option maxHeartbeats 1000000 in
theorem ikeyBack_yy (s0 : ByteArray) (q : Nat) (k0 : Int) (a1 : Option Addr) (len1 cap1 : Nat) (b1 X : List UInt8) (c n j er : Nat) (U : ByteArray) (w : World) (w1 : BsAt w a1 len1 cap1 b1) (hc : c = 0) (her : er = 0)
    (hEnc : ∀ W, Calls Try.prog 10 #[.agg #[.string s0, .int .u64 (q : Int), .int .i64 k0]] W fun e w' => ∃ a' c', e = .returned (.tuple #[.slice a' X.length c', .int .i64 (c : Int)]) ∧ BsAt w' a' X.length c' X ∧ Below W.heap.size W w')
    (hChk : ∀ W, Calls Try.prog 14 #[.agg #[.string s0, .int .u64 (q : Int), .int .i64 k0]] W fun e w' => e = .returned (.int .i64 (c : Int)) ∧ Below W.heap.size W w')
    (hD2 : ∀ W, BsAt W a1 len1 cap1 b1 → Calls Try.prog 12 #[.slice a1 len1 cap1] W fun e w' => e = .returned (.tuple #[.agg #[.string U, .int .u64 (n : Int), .int .i64 (j : Int)], .int .i64 (er : Int)]) ∧ Below W.heap.size W w')
    (hD1 : ∀ W a' c', BsAt W a' X.length c' X → Calls Try.prog 12 #[.slice a' X.length c'] W fun e w' => e = .returned (.tuple #[.agg #[.string s0, .int .u64 (q : Int), .int .i64 k0], .int .i64 0]) ∧ Below W.heap.size W w')
    (hE2 : ∀ W, Calls Try.prog 10 #[.agg #[.string U, .int .u64 (n : Int), .int .i64 (j : Int)]] W fun e w' => ∃ a' c', e = .returned (.tuple #[.slice a' len1 c', .int .i64 0]) ∧ BsAt w' a' len1 c' b1 ∧ Below W.heap.size W w') :
    Calls Try.prog 6 #[.agg #[.string s0, .int .u64 (q : Int), .int .i64 k0], .slice a1 len1 cap1] w fun e w' => e = .returned (.bool true) ∧ Below w.heap.size w w' := by
  have HB1 : Hid (BsAt w a1 len1 cap1 b1) := w1
  clear w1
  obtain rfl := hc
  obtain rfl := her
  have hne : ∀ W, (binOp .neq 25 (.agg #[.string s0, .int .u64 (q : Int), .int .i64 k0]) (.agg #[.string s0, .int .u64 (q : Int), .int .i64 k0])).run Try.prog W = .ok (.bool false) W := fun W => by rw [run_neq_key, keyEq_self]; rfl
  go_enter Try.func6, Try.ntmps6
  go_wp2_with fail
  refine (awake_any _).mono ?_
  rintro e v1 ⟨rfl, hb1⟩
  have H1 : Hid (Below w.heap.size w v1) := ((Below.refl _ w).alloc (Nat.le_refl _) _).trans (hb1.mono (by simp))
  have K1 : Hid (Rec3 v1 w.heap.size (.string s0) (.int .u64 (q : Int)) (.int .i64 k0)) := (Rec3.new w _ rfl _ _ _ _).below (Nat.le_refl _) hb1
  clear hb1
  obtain ⟨p0, p1, p2, _, _, _, pl⟩ := K1.out
  go_wp2_with fail
  refine (hEnc _).mono ?_
  rintro e v2 ⟨aX, cX, rfl, hX, hb2⟩
  have H2 : Hid (Below w.heap.size w v2) := H1.out.trans (hb2.mono H1.out.size)
  have K2 : Hid (Rec3 v2 w.heap.size (.string s0) (.int .u64 (q : Int)) (.int .i64 k0)) := K1.out.below (Nat.le_refl _) hb2
  have X2 : Hid (BsAt v2 aX X.length cX X) := hX
  clear hb2 hX H1 K1 p0 p1 p2 pl
  go_wp2_with fail
  refine (hD1 _ _ _ X2.out).mono ?_
  rintro e v3 ⟨rfl, hb3⟩
  have H3 : Hid (Below w.heap.size w v3) := H2.out.trans (hb3.mono H2.out.size)
  have K3 : Hid (Rec3 v3 w.heap.size (.string s0) (.int .u64 (q : Int)) (.int .i64 k0)) := K2.out.below (Nat.le_refl _) hb3
  clear hb3 H2 K2
  obtain ⟨p0, p1, p2, _, _, _, pl⟩ := K3.out
  go_wp2_with fail
  have hz3 := H3.out.size
  have H4 : Hid (Below w.heap.size w (v3.alloc (.cells #[.string s0, .int .u64 (q : Int), .int .i64 k0] 25))) := H3.out.alloc hz3 _
  have K4 : Hid (Rec3 (v3.alloc (.cells #[.string s0, .int .u64 (q : Int), .int .i64 k0] 25)) w.heap.size (.string s0) (.int .u64 (q : Int)) (.int .i64 k0)) := K3.out.alloc _
  clear p0 p1 p2 pl
  refine (hD2 _ (HB1.out.below (Nat.le_refl _) H4.out)).mono ?_
  rintro e v5 ⟨rfl, hb5⟩
  have H5 : Hid (Below w.heap.size w v5) := H4.out.trans (hb5.mono H4.out.size)
  have K5 : Hid (Rec3 v5 w.heap.size (.string s0) (.int .u64 (q : Int)) (.int .i64 k0)) := K4.out.below (Nat.le_refl _) hb5
  have hz5 := H5.out.size
  clear hb5 H4 K4
  obtain ⟨p0, p1, p2, _, _, _, pl⟩ := K5.out
  go_wp2_with fail
  have H6 : Hid (Below w.heap.size w (v5.alloc (.cells #[.string U, .int .u64 (n : Int), .int .i64 (j : Int)] 25))) := H5.out.alloc hz5 _
  have K6 : Hid (Rec3 (v5.alloc (.cells #[.string U, .int .u64 (n : Int), .int .i64 (j : Int)] 25)) w.heap.size (.string s0) (.int .u64 (q : Int)) (.int .i64 k0)) := K5.out.alloc _
  refine (hE2 _).mono ?_
  rintro e v7 ⟨aY, cY, rfl, hY, hb7⟩
  have H7 : Hid (Below w.heap.size w v7) := H6.out.trans (hb7.mono H6.out.size)
  have K7 : Hid (Rec3 v7 w.heap.size (.string s0) (.int .u64 (q : Int)) (.int .i64 k0)) := K6.out.below (Nat.le_refl _) hb7
  have hcY := conv_of hY
  have hcB := conv_of (HB1.out.below (Nat.le_refl _) H7.out)
  clear hb7 H6 K6 p0 p1 p2 pl
  obtain ⟨p0, p1, p2, _, _, _, pl⟩ := K7.out
  go_wp2_with fail
  refine (hChk _).mono ?_
  rintro e v8 ⟨rfl, hb8⟩
  have H8 := H7.out.trans (hb8.mono H7.out.size)
  go_wp2_with fail
  go_ret
  exact ⟨ret1 (by simp), H8⟩
set_option maxRecDepth 100000 in
set_option maxHeartbeats 1000000 in
theorem ikeyBack_yn (s0 : ByteArray) (q : Nat) (k0 : Int) (a1 : Option Addr) (len1 cap1 : Nat) (b1 X : List UInt8) (c n j er : Nat) (U : ByteArray) (w : World) (w1 : BsAt w a1 len1 cap1 b1) (hc : c = 0) (her : er ≠ 0)
    (hEnc : ∀ W, Calls Try.prog 10 #[.agg #[.string s0, .int .u64 (q : Int), .int .i64 k0]] W fun e w' => ∃ a' c', e = .returned (.tuple #[.slice a' X.length c', .int .i64 (c : Int)]) ∧ BsAt w' a' X.length c' X ∧ Below W.heap.size W w')
    (hChk : ∀ W, Calls Try.prog 14 #[.agg #[.string s0, .int .u64 (q : Int), .int .i64 k0]] W fun e w' => e = .returned (.int .i64 (c : Int)) ∧ Below W.heap.size W w')
    (hD2 : ∀ W, BsAt W a1 len1 cap1 b1 → Calls Try.prog 12 #[.slice a1 len1 cap1] W fun e w' => e = .returned (.tuple #[.agg #[.string U, .int .u64 (n : Int), .int .i64 (j : Int)], .int .i64 (er : Int)]) ∧ Below W.heap.size W w')
    (hD1 : ∀ W a' c', BsAt W a' X.length c' X → Calls Try.prog 12 #[.slice a' X.length c'] W fun e w' => e = .returned (.tuple #[.agg #[.string s0, .int .u64 (q : Int), .int .i64 k0], .int .i64 0]) ∧ Below W.heap.size W w') :
    Calls Try.prog 6 #[.agg #[.string s0, .int .u64 (q : Int), .int .i64 k0], .slice a1 len1 cap1] w fun e w' => e = .returned (.bool true) ∧ Below w.heap.size w w' := by
  have HB1 : Hid (BsAt w a1 len1 cap1 b1) := w1
  clear w1
  obtain rfl := hc
  have her' : ((er : Int) == 0) = false := by simp; omega
  have hne : ∀ W, (binOp .neq 25 (.agg #[.string s0, .int .u64 (q : Int), .int .i64 k0]) (.agg #[.string s0, .int .u64 (q : Int), .int .i64 k0])).run Try.prog W = .ok (.bool false) W := fun W => by rw [run_neq_key, keyEq_self]; rfl
  go_enter Try.func6, Try.ntmps6
  go_wp2_with fail
  refine (awake_any _).mono ?_
  rintro e v1 ⟨rfl, hb1⟩
  have H1 : Hid (Below w.heap.size w v1) := ((Below.refl _ w).alloc (Nat.le_refl _) _).trans (hb1.mono (by simp))
  have K1 : Hid (Rec3 v1 w.heap.size (.string s0) (.int .u64 (q : Int)) (.int .i64 k0)) := (Rec3.new w _ rfl _ _ _ _).below (Nat.le_refl _) hb1
  clear hb1
  obtain ⟨p0, p1, p2, _, _, _, pl⟩ := K1.out
  go_wp2_with fail
  refine (hEnc _).mono ?_
  rintro e v2 ⟨aX, cX, rfl, hX, hb2⟩
  have H2 : Hid (Below w.heap.size w v2) := H1.out.trans (hb2.mono H1.out.size)
  have K2 : Hid (Rec3 v2 w.heap.size (.string s0) (.int .u64 (q : Int)) (.int .i64 k0)) := K1.out.below (Nat.le_refl _) hb2
  have X2 : Hid (BsAt v2 aX X.length cX X) := hX
  clear hb2 hX H1 K1 p0 p1 p2 pl
  go_wp2_with fail
  refine (hD1 _ _ _ X2.out).mono ?_
  rintro e v3 ⟨rfl, hb3⟩
  have H3 : Hid (Below w.heap.size w v3) := H2.out.trans (hb3.mono H2.out.size)
  have K3 : Hid (Rec3 v3 w.heap.size (.string s0) (.int .u64 (q : Int)) (.int .i64 k0)) := K2.out.below (Nat.le_refl _) hb3
  clear hb3 H2 K2
  obtain ⟨p0, p1, p2, _, _, _, pl⟩ := K3.out
  go_wp2_with fail
  have hz3 := H3.out.size
  have H4 : Hid (Below w.heap.size w (v3.alloc (.cells #[.string s0, .int .u64 (q : Int), .int .i64 k0] 25))) := H3.out.alloc hz3 _
  have K4 : Hid (Rec3 (v3.alloc (.cells #[.string s0, .int .u64 (q : Int), .int .i64 k0] 25)) w.heap.size (.string s0) (.int .u64 (q : Int)) (.int .i64 k0)) := K3.out.alloc _
  clear p0 p1 p2 pl
  refine (hD2 _ (HB1.out.below (Nat.le_refl _) H4.out)).mono ?_
  rintro e v5 ⟨rfl, hb5⟩
  have H5 : Hid (Below w.heap.size w v5) := H4.out.trans (hb5.mono H4.out.size)
  have K5 : Hid (Rec3 v5 w.heap.size (.string s0) (.int .u64 (q : Int)) (.int .i64 k0)) := K4.out.below (Nat.le_refl _) hb5
  have hz5 := H5.out.size
  clear hb5 H4 K4
  obtain ⟨p0, p1, p2, _, _, _, pl⟩ := K5.out
  go_wp2_with fail
  have H6 : Hid (Below w.heap.size w (v5.alloc (.cells #[.string U, .int .u64 (n : Int), .int .i64 (j : Int)] 25))) := H5.out.alloc hz5 _
  have K6 : Hid (Rec3 (v5.alloc (.cells #[.string U, .int .u64 (n : Int), .int .i64 (j : Int)] 25)) w.heap.size (.string s0) (.int .u64 (q : Int)) (.int .i64 k0)) := K5.out.alloc _
  refine (hChk _).mono ?_
  rintro e v8 ⟨rfl, hb8⟩
  have H8 := H6.out.trans (hb8.mono H6.out.size)
  go_wp2_with fail
  go_ret
  exact ⟨ret1 (by simp), H8⟩
set_option maxRecDepth 100000 in
set_option maxHeartbeats 1000000 in
theorem ikeyBack_ny (s0 : ByteArray) (q : Nat) (k0 : Int) (a1 : Option Addr) (len1 cap1 : Nat) (b1 X : List UInt8) (c n j er : Nat) (U : ByteArray) (w : World) (w1 : BsAt w a1 len1 cap1 b1) (hc : c ≠ 0) (her : er = 0)
    (hEnc : ∀ W, Calls Try.prog 10 #[.agg #[.string s0, .int .u64 (q : Int), .int .i64 k0]] W fun e w' => ∃ a' c', e = .returned (.tuple #[.slice a' X.length c', .int .i64 (c : Int)]) ∧ BsAt w' a' X.length c' X ∧ Below W.heap.size W w')
    (hChk : ∀ W, Calls Try.prog 14 #[.agg #[.string s0, .int .u64 (q : Int), .int .i64 k0]] W fun e w' => e = .returned (.int .i64 (c : Int)) ∧ Below W.heap.size W w')
    (hD2 : ∀ W, BsAt W a1 len1 cap1 b1 → Calls Try.prog 12 #[.slice a1 len1 cap1] W fun e w' => e = .returned (.tuple #[.agg #[.string U, .int .u64 (n : Int), .int .i64 (j : Int)], .int .i64 (er : Int)]) ∧ Below W.heap.size W w')
    (hE2 : ∀ W, Calls Try.prog 10 #[.agg #[.string U, .int .u64 (n : Int), .int .i64 (j : Int)]] W fun e w' => ∃ a' c', e = .returned (.tuple #[.slice a' len1 c', .int .i64 0]) ∧ BsAt w' a' len1 c' b1 ∧ Below W.heap.size W w') :
    Calls Try.prog 6 #[.agg #[.string s0, .int .u64 (q : Int), .int .i64 k0], .slice a1 len1 cap1] w fun e w' => e = .returned (.bool true) ∧ Below w.heap.size w w' := by
  have HB1 : Hid (BsAt w a1 len1 cap1 b1) := w1
  clear w1
  have hc' : ((c : Int) == 0) = false := by simp; omega
  obtain rfl := her
  have hne : ∀ W, (binOp .neq 25 (.agg #[.string s0, .int .u64 (q : Int), .int .i64 k0]) (.agg #[.string s0, .int .u64 (q : Int), .int .i64 k0])).run Try.prog W = .ok (.bool false) W := fun W => by rw [run_neq_key, keyEq_self]; rfl
  go_enter Try.func6, Try.ntmps6
  go_wp2_with fail
  refine (awake_any _).mono ?_
  rintro e v1 ⟨rfl, hb1⟩
  have H1 : Hid (Below w.heap.size w v1) := ((Below.refl _ w).alloc (Nat.le_refl _) _).trans (hb1.mono (by simp))
  have K1 : Hid (Rec3 v1 w.heap.size (.string s0) (.int .u64 (q : Int)) (.int .i64 k0)) := (Rec3.new w _ rfl _ _ _ _).below (Nat.le_refl _) hb1
  clear hb1
  obtain ⟨p0, p1, p2, _, _, _, pl⟩ := K1.out
  go_wp2_with fail
  refine (hEnc _).mono ?_
  rintro e v2 ⟨aX, cX, rfl, hX, hb2⟩
  have H2 : Hid (Below w.heap.size w v2) := H1.out.trans (hb2.mono H1.out.size)
  have K2 : Hid (Rec3 v2 w.heap.size (.string s0) (.int .u64 (q : Int)) (.int .i64 k0)) := K1.out.below (Nat.le_refl _) hb2
  have X2 : Hid (BsAt v2 aX X.length cX X) := hX
  clear hb2 hX H1 K1 p0 p1 p2 pl
  go_wp2_with fail
  have H4 := H2
  have K4 := K2
  refine (hD2 _ (HB1.out.below (Nat.le_refl _) H4.out)).mono ?_
  rintro e v5 ⟨rfl, hb5⟩
  have H5 : Hid (Below w.heap.size w v5) := H4.out.trans (hb5.mono H4.out.size)
  have K5 : Hid (Rec3 v5 w.heap.size (.string s0) (.int .u64 (q : Int)) (.int .i64 k0)) := K4.out.below (Nat.le_refl _) hb5
  have hz5 := H5.out.size
  clear hb5 H4 K4
  obtain ⟨p0, p1, p2, _, _, _, pl⟩ := K5.out
  go_wp2_with fail
  have H6 : Hid (Below w.heap.size w (v5.alloc (.cells #[.string U, .int .u64 (n : Int), .int .i64 (j : Int)] 25))) := H5.out.alloc hz5 _
  have K6 : Hid (Rec3 (v5.alloc (.cells #[.string U, .int .u64 (n : Int), .int .i64 (j : Int)] 25)) w.heap.size (.string s0) (.int .u64 (q : Int)) (.int .i64 k0)) := K5.out.alloc _
  refine (hE2 _).mono ?_
  rintro e v7 ⟨aY, cY, rfl, hY, hb7⟩
  have H7 : Hid (Below w.heap.size w v7) := H6.out.trans (hb7.mono H6.out.size)
  have K7 : Hid (Rec3 v7 w.heap.size (.string s0) (.int .u64 (q : Int)) (.int .i64 k0)) := K6.out.below (Nat.le_refl _) hb7
  have hcY := conv_of hY
  have hcB := conv_of (HB1.out.below (Nat.le_refl _) H7.out)
  clear hb7 H6 K6 p0 p1 p2 pl
  obtain ⟨p0, p1, p2, _, _, _, pl⟩ := K7.out
  go_wp2_with fail
  refine (hChk _).mono ?_
  rintro e v8 ⟨rfl, hb8⟩
  have H8 := H7.out.trans (hb8.mono H7.out.size)
  go_wp2_with fail
  go_ret
  exact ⟨ret1 (by simp), H8⟩
set_option maxRecDepth 100000 in
set_option maxHeartbeats 1000000 in
theorem ikeyBack_nn (s0 : ByteArray) (q : Nat) (k0 : Int) (a1 : Option Addr) (len1 cap1 : Nat) (b1 X : List UInt8) (c n j er : Nat) (U : ByteArray) (w : World) (w1 : BsAt w a1 len1 cap1 b1) (hc : c ≠ 0) (her : er ≠ 0)
    (hEnc : ∀ W, Calls Try.prog 10 #[.agg #[.string s0, .int .u64 (q : Int), .int .i64 k0]] W fun e w' => ∃ a' c', e = .returned (.tuple #[.slice a' X.length c', .int .i64 (c : Int)]) ∧ BsAt w' a' X.length c' X ∧ Below W.heap.size W w')
    (hChk : ∀ W, Calls Try.prog 14 #[.agg #[.string s0, .int .u64 (q : Int), .int .i64 k0]] W fun e w' => e = .returned (.int .i64 (c : Int)) ∧ Below W.heap.size W w')
    (hD2 : ∀ W, BsAt W a1 len1 cap1 b1 → Calls Try.prog 12 #[.slice a1 len1 cap1] W fun e w' => e = .returned (.tuple #[.agg #[.string U, .int .u64 (n : Int), .int .i64 (j : Int)], .int .i64 (er : Int)]) ∧ Below W.heap.size W w') :
    Calls Try.prog 6 #[.agg #[.string s0, .int .u64 (q : Int), .int .i64 k0], .slice a1 len1 cap1] w fun e w' => e = .returned (.bool true) ∧ Below w.heap.size w w' := by
  have HB1 : Hid (BsAt w a1 len1 cap1 b1) := w1
  clear w1
  have hc' : ((c : Int) == 0) = false := by simp; omega
  have her' : ((er : Int) == 0) = false := by simp; omega
  have hne : ∀ W, (binOp .neq 25 (.agg #[.string s0, .int .u64 (q : Int), .int .i64 k0]) (.agg #[.string s0, .int .u64 (q : Int), .int .i64 k0])).run Try.prog W = .ok (.bool false) W := fun W => by rw [run_neq_key, keyEq_self]; rfl
  go_enter Try.func6, Try.ntmps6
  go_wp2_with fail
  refine (awake_any _).mono ?_
  rintro e v1 ⟨rfl, hb1⟩
  have H1 : Hid (Below w.heap.size w v1) := ((Below.refl _ w).alloc (Nat.le_refl _) _).trans (hb1.mono (by simp))
  have K1 : Hid (Rec3 v1 w.heap.size (.string s0) (.int .u64 (q : Int)) (.int .i64 k0)) := (Rec3.new w _ rfl _ _ _ _).below (Nat.le_refl _) hb1
  clear hb1
  obtain ⟨p0, p1, p2, _, _, _, pl⟩ := K1.out
  go_wp2_with fail
  refine (hEnc _).mono ?_
  rintro e v2 ⟨aX, cX, rfl, hX, hb2⟩
  have H2 : Hid (Below w.heap.size w v2) := H1.out.trans (hb2.mono H1.out.size)
  have K2 : Hid (Rec3 v2 w.heap.size (.string s0) (.int .u64 (q : Int)) (.int .i64 k0)) := K1.out.below (Nat.le_refl _) hb2
  have X2 : Hid (BsAt v2 aX X.length cX X) := hX
  clear hb2 hX H1 K1 p0 p1 p2 pl
  go_wp2_with fail
  have H4 := H2
  have K4 := K2
  refine (hD2 _ (HB1.out.below (Nat.le_refl _) H4.out)).mono ?_
  rintro e v5 ⟨rfl, hb5⟩
  have H5 : Hid (Below w.heap.size w v5) := H4.out.trans (hb5.mono H4.out.size)
  have K5 : Hid (Rec3 v5 w.heap.size (.string s0) (.int .u64 (q : Int)) (.int .i64 k0)) := K4.out.below (Nat.le_refl _) hb5
  have hz5 := H5.out.size
  clear hb5 H4 K4
  obtain ⟨p0, p1, p2, _, _, _, pl⟩ := K5.out
  go_wp2_with fail
  have H6 : Hid (Below w.heap.size w (v5.alloc (.cells #[.string U, .int .u64 (n : Int), .int .i64 (j : Int)] 25))) := H5.out.alloc hz5 _
  have K6 : Hid (Rec3 (v5.alloc (.cells #[.string U, .int .u64 (n : Int), .int .i64 (j : Int)] 25)) w.heap.size (.string s0) (.int .u64 (q : Int)) (.int .i64 k0)) := K5.out.alloc _
  refine (hChk _).mono ?_
  rintro e v8 ⟨rfl, hb8⟩
  have H8 := H6.out.trans (hb8.mono H6.out.size)
  go_wp2_with fail
  go_ret
  exact ⟨ret1 (by simp), H8⟩

theorem ikeyBack_walk (s0 : ByteArray) (q0 k0 : Int) (a1 : Option Addr) (len1 cap1 : Nat) (b1 : List UInt8) (w : World) (e0 : s0.size ≤ 140737488351232) (x0 : (Lit.int .u64 q0).wf = true) (_y0 : (Lit.int .i64 k0).wf = true) (w1 : BsAt w a1 len1 cap1 b1) (_e1 : cap1 ≤ 140737488351232) :
    Calls Try.prog 6 #[.agg #[.string s0, .int .u64 q0, .int .i64 k0], .slice a1 len1 cap1] w fun e w' => e = .returned (.bool true) ∧ Below w.heap.size w w' := by
  obtain ⟨q, rfl⟩ : ∃ q : Nat, q0 = (q : Int) := by
    simp [Lit.wf, IntKind.min, IntKind.max, IntKind.bits, IntKind.signed] at x0
    exact ⟨q0.toNat, by omega⟩
  have hsl : s0.data.toList.length = s0.size := by rw [Array.length_toList]; rfl
  have hEnc := fun W => encode_any s0 q k0 W e0
  have hChk := fun W => check_any s0 q k0 W (by omega)
  have hD2 := fun W (h : BsAt W a1 len1 cap1 b1) => decode_any a1 len1 cap1 b1 W h
  have hD1 : chk s0.size q k0 = 0 → ∀ W a' c', BsAt W a' (keyEnc s0.data.toList q k0).length c' (keyEnc s0.data.toList q k0) → Calls Try.prog 12 #[.slice a' (keyEnc s0.data.toList q k0).length c'] W fun e w' => e = .returned (.tuple #[.agg #[.string s0, .int .u64 (q : Int), .int .i64 k0], .int .i64 0]) ∧ Below W.heap.size W w' := by
    intro h W a' c' hb
    have hd := decode_any a' _ c' _ W hb
    obtain ⟨h1, h2, h3, h4⟩ := key_back s0.data.toList q k0 (by rw [hsl]; exact h)
    rw [h1, h2, h3, h4, strOf_data] at hd
    exact hd
  have hE2 : keyErr b1 = 0 → ∀ W, Calls Try.prog 10 #[.agg #[.string (strOf (keyUser b1)), .int .u64 ((keySeq b1 : Nat) : Int), .int .i64 ((keyKind b1 : Nat) : Int)]] W fun e w' => ∃ a' c', e = .returned (.tuple #[.slice a' len1 c', .int .i64 0]) ∧ BsAt w' a' len1 c' b1 ∧ Below W.heap.size W w' := by
    intro h W
    have hok : keyOk b1 = true := by
      by_cases hk : keyOk b1 = true
      · exact hk
      · unfold keyErr at h
        rw [if_neg hk] at h
        omega
    obtain ⟨h1, h2⟩ := key_laid b1 hok
    have hu := (chk_zero h1).1
    have hz : (strOf (keyUser b1)).size = (keyUser b1).length := by show (keyUser b1).toArray.size = _; simp
    have hE := encode_any (strOf (keyUser b1)) (keySeq b1) (keyKind b1) W (by rw [hz]; omega)
    rw [show (strOf (keyUser b1)).data.toList = keyUser b1 by simp [strOf], h2, hz, h1, w1.size] at hE
    exact hE
  by_cases hA : chk s0.size q k0 = 0
  · by_cases hB : keyErr b1 = 0
    · exact ikeyBack_yy s0 q k0 a1 len1 cap1 b1 _ _ _ _ _ _ w w1 hA hB hEnc hChk hD2 (hD1 hA) (hE2 hB)
    · exact ikeyBack_yn s0 q k0 a1 len1 cap1 b1 _ _ _ _ _ _ w w1 hA hB hEnc hChk hD2 (hD1 hA)
  · by_cases hB : keyErr b1 = 0
    · exact ikeyBack_ny s0 q k0 a1 len1 cap1 b1 _ _ _ _ _ _ w w1 hA hB hEnc hChk hD2 (hE2 hB)
    · exact ikeyBack_nn s0 q k0 a1 len1 cap1 b1 _ _ _ _ _ _ w w1 hA hB hEnc hChk hD2
end Go.Proofs.Ytleojljcidocjaa
