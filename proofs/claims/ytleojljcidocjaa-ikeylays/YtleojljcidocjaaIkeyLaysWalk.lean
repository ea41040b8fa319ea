/- staddlelaw02.IkeyLays returns true, for every argument, and leaves memory as it was. -/
import Derived.Test.YtleojljcidocjaaAwake2
import Derived.Test.YtleojljcidocjaaREnc
import Derived.Test.YtleojljcidocjaaRDec
import Derived.Test.YtleojljcidocjaaKeyEq
import Derived.Deep.RegionHeld3
namespace Go.Proofs.Ytleojljcidocjaa
open Go.RowKit
set_option maxRecDepth 100000 in
set_option maxHeartbeats 1000000 in
theorem ikeyLays_walk (s0 : ByteArray) (q0 k0 : Int) (a1 : Option Addr) (len1 cap1 : Nat) (b1 : List UInt8) (w : World) (e0 : s0.size ≤ 140737488351232) (x0 : (Lit.int .u64 q0).wf = true) (_y0 : (Lit.int .i64 k0).wf = true) (w1 : BsAt w a1 len1 cap1 b1) (_e1 : cap1 ≤ 140737488351232) :
    Calls Try.prog 4 #[.agg #[.string s0, .int .u64 q0, .int .i64 k0], .slice a1 len1 cap1] w fun e w' => e = .returned (.bool true) ∧ Below w.heap.size w w' := by
  obtain ⟨q, rfl⟩ : ∃ q : Nat, q0 = (q : Int) := by
    simp [Lit.wf, IntKind.min, IntKind.max, IntKind.bits, IntKind.signed] at x0
    exact ⟨q0.toNat, by omega⟩
  clear x0
  have HB1 : Hid (BsAt w a1 len1 cap1 b1) := w1
  clear w1
  have hsl : s0.size ≤ 140737488355328 := by omega
  have henc := fun W => encode_any s0 q k0 W e0
  have hrenc := fun W => rencode_any s0 q k0 W e0
  have hchk := fun W => check_any s0 q k0 W hsl
  have hrchk := fun W => rcheck_any s0 q k0 W hsl
  have hdec := fun (W : World) (h : BsAt W a1 len1 cap1 b1) => decode_any a1 len1 cap1 b1 W h
  have hrdec := fun (W : World) (h : BsAt W a1 len1 cap1 b1) => rdecode_any a1 len1 cap1 b1 W h
  generalize keyEnc s0.data.toList q k0 = X at henc hrenc
  generalize chk s0.size q k0 = c at henc hrenc hchk hrchk
  generalize strOf (keyUser b1) = U at hdec hrdec
  generalize keySeq b1 = n at hdec hrdec
  generalize keyKind b1 = j at hdec hrdec
  generalize keyErr b1 = er at hdec hrdec
  have HENC : Hid (∀ W, _) := henc
  have HRENC : Hid (∀ W, _) := hrenc
  have HCHK : Hid (∀ W, _) := hchk
  have HRCHK : Hid (∀ W, _) := hrchk
  have HDEC : Hid (∀ W, _) := hdec
  have HRDEC : Hid (∀ W, _) := hrdec
  clear henc hrenc hchk hrchk hdec hrdec
  go_enter Try.func4, Try.ntmps4
  go_wp2_with (first
    | (go_at_call 9; refine (awake_any _).mono ?_; rintro e v1 ⟨rfl, hb1⟩
       have HBA : Hid (Below w.heap.size w v1) := ((Below.refl _ w).alloc (Nat.le_refl _) _).trans (hb1.mono (by simp))
       have HK1 : Hid (Rec3 v1 w.heap.size (.string s0) (.int .u64 (q : Int)) (.int .i64 k0)) := (Rec3.new w _ rfl _ _ _ _).below (Nat.le_refl _) hb1
       clear hb1
       obtain ⟨c0, c1, c2, _, _, _, hl⟩ := HK1.out)
    | (go_at_call 10; refine (HENC.out _).mono ?_; rintro e v2 ⟨aX, cX, rfl, hX, hb2⟩
       have HBB : Hid (Below w.heap.size w v2) := HBA.out.trans (hb2.mono HBA.out.size)
       have HX2 : Hid (BsAt v2 aX X.length cX X) := hX
       have HK2 : Hid (Rec3 v2 w.heap.size (.string s0) (.int .u64 (q : Int)) (.int .i64 k0)) := HK1.out.below (Nat.le_refl _) hb2
       clear hb2 hX c0 c1 c2 hl HK1
       obtain ⟨c0, c1, c2, _, _, _, hl2⟩ := HK2.out)
    | (go_at_call 11; refine (HRENC.out _).mono ?_; rintro e v3 ⟨aY, cY, rfl, hY, hb3⟩
       have HBC : Hid (Below w.heap.size w v3) := HBB.out.trans (hb3.mono HBB.out.size)
       have HX3 : Hid (BsAt v3 aX X.length cX X) := HX2.out.below (Nat.le_refl _) hb3
       have HY3 : Hid (BsAt v3 aY X.length cY X) := hY
       have HK3 : Hid (Rec3 v3 w.heap.size (.string s0) (.int .u64 (q : Int)) (.int .i64 k0)) := HK2.out.below (Nat.le_refl _) hb3
       clear hb3 hY c0 c1 c2 hl2 HX2 HK2)
    | (go_at_call 12; refine (HDEC.out _ (HB1.out.below (Nat.le_refl _) HBC.out)).mono ?_; rintro e v4 ⟨rfl, hb4⟩
       have HBD : Hid (Below w.heap.size w v4) := HBC.out.trans (hb4.mono HBC.out.size)
       have HX4 : Hid (BsAt v4 aX X.length cX X) := HX3.out.below (Nat.le_refl _) hb4
       have HY4 : Hid (BsAt v4 aY X.length cY X) := HY3.out.below (Nat.le_refl _) hb4
       have HK4 : Hid (Rec3 v4 w.heap.size (.string s0) (.int .u64 (q : Int)) (.int .i64 k0)) := HK3.out.below (Nat.le_refl _) hb4
       clear hb4 HX3 HY3 HK3 HBC)
    | (go_at_call 13; refine (HRDEC.out _ (HB1.out.below (Nat.le_refl _) (HBD.out.alloc HBD.out.size _))).mono ?_; rintro e v5 ⟨rfl, hb5⟩
       have hsz4 := HBD.out.size
       have HBE : Hid (Below w.heap.size w v5) := (HBD.out.alloc hsz4 _).trans (hb5.mono (by simp; omega))
       have HM5 : Hid (Rec3 v5 v4.heap.size (.string U) (.int .u64 (n : Int)) (.int .i64 (j : Int))) := (Rec3.new v4 _ rfl _ _ _ _).below (Nat.le_refl _) hb5
       have HX5 : Hid (BsAt v5 aX X.length cX X) := (HX4.out.alloc _).below (Nat.le_refl _) hb5
       have HY5 : Hid (BsAt v5 aY X.length cY X) := (HY4.out.alloc _).below (Nat.le_refl _) hb5
       have HK5 : Hid (Rec3 v5 w.heap.size (.string s0) (.int .u64 (q : Int)) (.int .i64 k0)) := (HK4.out.alloc _).below (Nat.le_refl _) hb5
       clear hb5 HX4 HY4 HK4 HBD))
  have hsz5 := HBE.out.size
  have HB6 : Hid (Below w.heap.size w (v5.alloc (.cells #[.string U, .int .u64 (n : Int), .int .i64 (j : Int)] 25)).drew) := (HBE.out.alloc hsz5 _).drew
  have HS0 : Hid ((Rec3 (v5.alloc (.cells #[.string U, .int .u64 (n : Int), .int .i64 (j : Int)] 25)).drew w.heap.size (.string s0) (.int .u64 (q : Int)) (.int .i64 k0) ∧ Rec3 (v5.alloc (.cells #[.string U, .int .u64 (n : Int), .int .i64 (j : Int)] 25)).drew v4.heap.size (.string U) (.int .u64 (n : Int)) (.int .i64 (j : Int)) ∧ Rec3 (v5.alloc (.cells #[.string U, .int .u64 (n : Int), .int .i64 (j : Int)] 25)).drew v5.heap.size (.string U) (.int .u64 (n : Int)) (.int .i64 (j : Int))) ∧ BsAt (v5.alloc (.cells #[.string U, .int .u64 (n : Int), .int .i64 (j : Int)] 25)).drew aX X.length cX X ∧ BsAt (v5.alloc (.cells #[.string U, .int .u64 (n : Int), .int .i64 (j : Int)] 25)).drew aY X.length cY X) := ⟨⟨(HK5.out.alloc _).below (Nat.le_refl _) ((Below.refl _ _).drew), (HM5.out.alloc _).below (Nat.le_refl _) ((Below.refl _ _).drew), (Rec3.new v5 _ rfl _ _ _ _).below (Nat.le_refl _) ((Below.refl _ _).drew)⟩, (HX5.out.alloc _).drew, (HY5.out.alloc _).drew⟩
  obtain ⟨⟨⟨c0, c1, c2, _, _, _, cl⟩, ⟨d0, d1, d2, _, _, _, dl⟩, ⟨g0, g1, g2, _, _, _, gl⟩⟩, hxx, hyy⟩ := HS0.out
  have hcX := conv_of hxx
  have hcY := conv_of hyy
  clear hxx hyy
  clear HX5 HY5 HK5 HM5 HBE HENC HRENC HDEC HRDEC
  have hE := fun W => run_eql_key U U (n : Int) (n : Int) (j : Int) (j : Int) W
  rw [keyEq_self] at hE
  go_region_held3 (fun w' => w'.cell? ⟨w.heap.size, 0, none⟩ = some (.string s0) ∧ w'.cell? ⟨w.heap.size, 1, none⟩ = some (.int .u64 (q : Int)) ∧ w'.cell? ⟨w.heap.size, 2, none⟩ = some (.int .i64 k0) ∧ w'.cell? ⟨v4.heap.size, 0, none⟩ = some (.string U) ∧ w'.cell? ⟨v4.heap.size, 1, none⟩ = some (.int .u64 (n : Int)) ∧ w'.cell? ⟨v4.heap.size, 2, none⟩ = some (.int .i64 (j : Int)) ∧ w'.cell? ⟨v5.heap.size, 0, none⟩ = some (.string U) ∧ w'.cell? ⟨v5.heap.size, 1, none⟩ = some (.int .u64 (n : Int)) ∧ w'.cell? ⟨v5.heap.size, 2, none⟩ = some (.int .i64 (j : Int)) ∧ (convert 26 9 (.slice aX X.length cX)).run Try.prog w' = .ok (.string (strOf X)) w' ∧ (convert 26 9 (.slice aY X.length cY)).run Try.prog w' = .ok (.string (strOf X)) w') (first | exact ⟨c0, c1, c2, d0, d1, d2, g0, g1, g2, hcX, hcY⟩ | go_keep)
    (first
     | (go_at_call 14; refine (HCHK.out _).mono ?_; rintro e vx ⟨rfl, hbx⟩
        first
          | (have HS1 : Hid ((Rec3 vx w.heap.size (.string s0) (.int .u64 (q : Int)) (.int .i64 k0) ∧ Rec3 vx v4.heap.size (.string U) (.int .u64 (n : Int)) (.int .i64 (j : Int)) ∧ Rec3 vx v5.heap.size (.string U) (.int .u64 (n : Int)) (.int .i64 (j : Int))) ∧ BsAt vx aX X.length cX X ∧ BsAt vx aY X.length cY X) := ⟨⟨HS0.out.1.1.below (Nat.le_refl _) hbx, HS0.out.1.2.1.below (Nat.le_refl _) hbx, HS0.out.1.2.2.below (Nat.le_refl _) hbx⟩, HS0.out.2.1.below (Nat.le_refl _) hbx, HS0.out.2.2.below (Nat.le_refl _) hbx⟩
             have HBF : Hid (Below w.heap.size w vx) := HB6.out.trans (hbx.mono HB6.out.size)
             clear hbx
             obtain ⟨⟨⟨c0, c1, c2, _, _, _, cl⟩, ⟨d0, d1, d2, _, _, _, dl⟩, ⟨g0, g1, g2, _, _, _, gl⟩⟩, hxx, hyy⟩ := HS1.out
             have hcX := conv_of hxx
             have hcY := conv_of hyy
             clear hxx hyy)
          | (have HS2 : Hid ((Rec3 vx w.heap.size (.string s0) (.int .u64 (q : Int)) (.int .i64 k0) ∧ Rec3 vx v4.heap.size (.string U) (.int .u64 (n : Int)) (.int .i64 (j : Int)) ∧ Rec3 vx v5.heap.size (.string U) (.int .u64 (n : Int)) (.int .i64 (j : Int))) ∧ BsAt vx aX X.length cX X ∧ BsAt vx aY X.length cY X) := ⟨⟨HS1.out.1.1.below (Nat.le_refl _) hbx, HS1.out.1.2.1.below (Nat.le_refl _) hbx, HS1.out.1.2.2.below (Nat.le_refl _) hbx⟩, HS1.out.2.1.below (Nat.le_refl _) hbx, HS1.out.2.2.below (Nat.le_refl _) hbx⟩
             have HBG : Hid (Below w.heap.size w vx) := HBF.out.trans (hbx.mono HBF.out.size)
             clear hbx
             obtain ⟨⟨⟨c0, c1, c2, _, _, _, cl⟩, ⟨d0, d1, d2, _, _, _, dl⟩, ⟨g0, g1, g2, _, _, _, gl⟩⟩, hxx, hyy⟩ := HS2.out
             have hcX := conv_of hxx
             have hcY := conv_of hyy
             clear hxx hyy))
     | (go_at_call 15; refine (HRCHK.out _).mono ?_; rintro e vx ⟨rfl, hbx⟩
        first
          | (have HS1 : Hid ((Rec3 vx w.heap.size (.string s0) (.int .u64 (q : Int)) (.int .i64 k0) ∧ Rec3 vx v4.heap.size (.string U) (.int .u64 (n : Int)) (.int .i64 (j : Int)) ∧ Rec3 vx v5.heap.size (.string U) (.int .u64 (n : Int)) (.int .i64 (j : Int))) ∧ BsAt vx aX X.length cX X ∧ BsAt vx aY X.length cY X) := ⟨⟨HS0.out.1.1.below (Nat.le_refl _) hbx, HS0.out.1.2.1.below (Nat.le_refl _) hbx, HS0.out.1.2.2.below (Nat.le_refl _) hbx⟩, HS0.out.2.1.below (Nat.le_refl _) hbx, HS0.out.2.2.below (Nat.le_refl _) hbx⟩
             have HBF : Hid (Below w.heap.size w vx) := HB6.out.trans (hbx.mono HB6.out.size)
             clear hbx
             obtain ⟨⟨⟨c0, c1, c2, _, _, _, cl⟩, ⟨d0, d1, d2, _, _, _, dl⟩, ⟨g0, g1, g2, _, _, _, gl⟩⟩, hxx, hyy⟩ := HS1.out
             have hcX := conv_of hxx
             have hcY := conv_of hyy
             clear hxx hyy)
          | (have HS2 : Hid ((Rec3 vx w.heap.size (.string s0) (.int .u64 (q : Int)) (.int .i64 k0) ∧ Rec3 vx v4.heap.size (.string U) (.int .u64 (n : Int)) (.int .i64 (j : Int)) ∧ Rec3 vx v5.heap.size (.string U) (.int .u64 (n : Int)) (.int .i64 (j : Int))) ∧ BsAt vx aX X.length cX X ∧ BsAt vx aY X.length cY X) := ⟨⟨HS1.out.1.1.below (Nat.le_refl _) hbx, HS1.out.1.2.1.below (Nat.le_refl _) hbx, HS1.out.1.2.2.below (Nat.le_refl _) hbx⟩, HS1.out.2.1.below (Nat.le_refl _) hbx, HS1.out.2.2.below (Nat.le_refl _) hbx⟩
             have HBG : Hid (Below w.heap.size w vx) := HBF.out.trans (hbx.mono HBF.out.size)
             clear hbx
             obtain ⟨⟨⟨c0, c1, c2, _, _, _, cl⟩, ⟨d0, d1, d2, _, _, _, dl⟩, ⟨g0, g1, g2, _, _, _, gl⟩⟩, hxx, hyy⟩ := HS2.out
             have hcX := conv_of hxx
             have hcY := conv_of hyy
             clear hxx hyy)))
  all_goals
    go_wp2
    go_ret
    exact ⟨ret1 (by simp), HBG.out⟩
end Go.Proofs.Ytleojljcidocjaa
