/- The walk of ManifestFails. -/
import Derived.Test.YtmlfbihlbiikeaaGreatDoorQc37
import Derived.Test.YtmlfbihlbiikeaaGreatDoorQc49
import Derived.Test.YtmlfbihlbiikeaaGreatDoorQc26
import Derived.Deep.DeepCutAuto
namespace Go.Proofs.YtmlfbihlbiikeaaGreatDoor
open Go.RowKit
set_option linter.unusedVariables false
set_option linter.unusedSimpArgs false
set_option maxRecDepth 100000
def logS : ByteArray := ⟨#[48, 48, 48, 48, 48, 52, 46, 108, 111, 103]⟩
theorem logS_is : logS.data.toList = logB4 := rfl
theorem log_ne5 : logB4 ≠ manD 53 := by decide
theorem log_ne9 : logB4 ≠ manD 57 := by decide
set_option maxHeartbeats 8000000 in
theorem manifestFails_walk (a0 : Option Addr) (n0 c0 : Nat) (l0 : List (PE × SE)) (a1 : Int) (a2 : Option Addr) (n2 c2 : Nat) (b2 : List UInt8) (w : World) (h0 : EsAt w a0 n0 c0 l0) (e0 : n0 * 72 ≤ 140737488351232) (w1 : (Lit.int .i64 a1).wf = true) (h2 : BsAt w a2 n2 c2 b2) (e2 : c2 ≤ 140737488351232) (hg : Gl w) (h6 : 6 ≤ w.heap.size) :
    Calls Tryz.prog 8 #[.slice a0 n0 c0, .int .i64 a1, .slice a2 n2 c2] w fun e w' => e = .returned (.bool true) ∧ Below w.heap.size w w' := by
  have hfa : -9223372036854775808 ≤ a1 ∧ a1 ≤ 9223372036854775807 := by simp [Lit.wf, IntKind.min, IntKind.max, IntKind.bits, IntKind.signed] at w1; omega
  have HA := awake_yes w hg h6
  have HARG : Hid (EsAt w a0 n0 c0 l0 ∧ BsAt w a2 n2 c2 b2 ∧ n0 ≤ 2000000000000 ∧ Gl w ∧ 6 ≤ w.heap.size) := ⟨h0, h2, by omega, hg, h6⟩
  have hlb2 := h2.le
  have hsz2 := h2.size
  clear w1 h0 e0 h2 hg h6
  go_enter Tryz.func8, Tryz.ntmps8
  go_wp2_with fail
  refine HA.mono ?_
  rintro _ wa ⟨rfl, hba⟩
  have HRA : Hid (EsAt wa a0 n0 c0 l0 ∧ BsAt wa a2 n2 c2 b2 ∧ n0 ≤ 2000000000000 ∧ Gl wa ∧ 6 ≤ wa.heap.size ∧ Below w.heap.size w wa) := ⟨HARG.out.1.below hba, HARG.out.2.1.below (Nat.le_refl _) hba, HARG.out.2.2.1, HARG.out.2.2.2.1.later hba, Nat.le_trans HARG.out.2.2.2.2 hba.size, hba⟩
  clear HA hba HARG
  rcases Nat.lt_or_ge 1000 n2 with hln | hln
  · have hlb : (1000 : Int) < (n2 : Int) := by omega
    go_wp2
    try go_ret
    exact ⟨ret1 rfl, HRA.out.2.2.2.2.2⟩
  have hlb : ¬ (1000 : Int) < (n2 : Int) := by omega
  have HN := fw_new fsOk 1048576 (by decide) HRA.out.2.2.2.1 HRA.out.2.2.2.2.1
  go_wp2_with fail
  refine HN.mono ?_
  rintro _ w1 ⟨p, R1, rfl, h1⟩
  have HS5 := fw_state fsOk h1 5 7 a0 n0 c0 l0 (HRA.out.1.below h1.base) HRA.out.2.2.1 (by decide) (by decide)
  have HD5 : Hid (Std 5 (stateP 5 7 (l0.map Prod.fst))) := state_std 5 7 _ (by decide) (by decide)
  generalize stateP 5 7 (l0.map Prod.fst) = s5 at HS5 HD5
  clear HN h1
  go_wp2_with fail
  refine HS5.mono ?_
  rintro _ w2 ⟨t5, rfl, R2, h2, n2', v5⟩
  obtain ⟨W3, R3, eW3, h3, n3, b5⟩ := Fw.box2 fsOk h2 s5 v5
  have HS9 := fw_state fsOk h3 9 8 a0 n0 c0 l0 (HRA.out.1.below h3.base) HRA.out.2.2.1 (by decide) (by decide)
  have HD9 : Hid (Std 9 (stateP 9 8 (l0.map Prod.fst))) := state_std 9 8 _ (by decide) (by decide)
  generalize stateP 9 8 (l0.map Prod.fst) = s9 at HS9 HD9
  have HB3 : Hid (SB W3 R3 w2.heap.size s5 t5) := b5
  clear HS5 h2 n2' v5 h3 n3 b5
  go_wp2_with fail
  rw [← eW3.out]
  clear eW3
  generalize w2.heap.size = q5 at HB3 ⊢
  refine HS9.mono ?_
  rintro _ w4 ⟨t9, rfl, R4, h4, n4, v9⟩
  obtain ⟨W5, R5, eW5, h5, n5, b9⟩ := Fw.box2 fsOk h4 s9 v9
  have HB5 : Hid (SB W5 R5 q5 s5 t5 ∧ SB W5 R5 w4.heap.size s9 t9) := ⟨(HB3.out.nx n4).nx n5, b9⟩
  have HWR := fw_write fsOk h5 s5 t5 (by decide) HB5.out.1.vs.at HB5.out.1.vs.wf HD5.out.few (by rw [HD5.out.num]; decide)
  have hnm5 : nameP 3 s5.num = manD 53 := by rw [HD5.out.num]; exact name_5
  have hnm9 : nameP 3 s9.num = manD 57 := by rw [HD9.out.num]; exact name_9
  obtain ⟨k6, ek6, hk6⟩ := write_new HD5.out.chk (by rw [hnm5]; exact fresh_5) (Nat.le_trans HD5.out.len (by decide))
  rw [ek6] at HWR
  dsimp only at HWR
  have HK : Hid (nameP 3 s5.num = manD 53 ∧ nameP 3 s9.num = manD 57 ∧ Fine k6 12) := ⟨hnm5, hnm9, hk6⟩
  obtain ⟨c0', c1', c2', c3', c4', c5', c6', c7'⟩ := HB5.out.1.box.eight
  clear HS9 h4 n4 v9 HB3 h5 n5 b9 hnm5 hnm9 ek6 hk6
  go_upto_region 9 with fail
  rw [← eW5.out]
  clear eW5
  generalize w4.heap.size = q9 at HB5 ⊢
  go_wp2_with fail
  refine HWR.mono ?_
  rintro _ w6 ⟨rfl, R6, h6, n6⟩
  have HB6 : Hid (SB w6 R6 q5 s5 t5 ∧ SB w6 R6 q9 s9 t9) := ⟨HB5.out.1.nx n6, HB5.out.2.nx n6⟩
  obtain ⟨k7, k8, ec, ea, hk7, hk8⟩ := log_made b2 HK.out.2.2 (m := nameP 3 s5.num) (B := s5.bytes) (by rw [HK.out.1]; exact log_ne5) (by rw [HK.out.1]; have := HD5.out.len; have : (manD 53).length = 15 := rfl; omega)
  have HC := fw_create fsOk h6 logS (by have := HK.out.2.2.asked; show k6.asked < _; omega)
  rw [logS_is, ec] at HC
  dsimp only at HC
  have HK2 : Hid (Fine k7 13 ∧ Fine k8 14 ∧ (pf ((cr1 (nameP 3 s5.num) s5.bytes).create logB4) k7).append logB4 b2 = (pf (crL (nameP 3 s5.num) s5.bytes b2) k8, 0)) := ⟨hk7, hk8, ea⟩
  clear HWR h6 n6 HB5 ec ea hk7 hk8 c0' c1' c2' c3' c4' c5' c6' c7'
  go_wp2_with fail
  refine HC.mono ?_
  rintro _ w7 ⟨rfl, R7, h7, n7⟩
  have HB7 : Hid (SB w7 R7 q5 s5 t5 ∧ SB w7 R7 q9 s9 t9) := ⟨HB6.out.1.nx n7, HB6.out.2.nx n7⟩
  have HP := fw_put fsOk h7 logS a2 n2 c2 b2 (by have := HK2.out.1.asked; show k7.asked < _; omega) (HRA.out.2.1.below (Nat.le_refl _) h7.base) (by omega)
  rw [logS_is, HK2.out.2.2] at HP
  dsimp only at HP
  clear HC h7 n7 HB6
  go_wp2_with fail
  refine HP.mono ?_
  rintro _ w8 ⟨rfl, R8, h8, n8⟩
  have HB8 : Hid (SB w8 R8 q5 s5 t5 ∧ SB w8 R8 q9 s9 t9 ∧ Fw D0 wa p (pf (crL (nameP 3 s5.num) s5.bytes b2) k8) R8 w8) := ⟨HB7.out.1.nx n8, HB7.out.2.nx n8, h8⟩
  clear HP h8 n8 HB7
  go_upto_if 52 with fail
  go_cut [1] (fun x wz => ∃ m : Int, x = .int .i64 m ∧ (0 ≤ m ∧ m ≤ 9223372036854775807) ∧ wz = w8)
  case first =>
    by_cases hneg : a1 < 0
    · go_wp2_with fail
      go_meet
      exact ⟨_, rfl, by omega, rfl⟩
    · go_wp2_with fail
      go_meet
      exact ⟨_, rfl, by omega, rfl⟩
  case rest =>
    obtain ⟨m, rfl, hm, rfl⟩ := hcut
    have hm0 : 0 ≤ m % 12 := by omega
    have hm1 : m % 12 < 12 := by omega
    have HFL := fw_fail fsOk HB8.out.2.2 (m % 12) (by omega)
    go_wp2_with fail
    refine HFL.mono ?_
    rintro _ w9 ⟨rfl, R9, h9, n9⟩
    have HB9 : Hid (SB w9 R9 q5 s5 t5 ∧ SB w9 R9 q9 s9 t9) := ⟨HB8.out.1.nx n9, HB8.out.2.1.nx n9⟩
    obtain ⟨c4, k10, er, ew, ha10, ⟨k11, ef, hq11, ha11⟩, hH, hf3, hb3⟩ := write_fails (s := s5) (log := b2) HD9.out.chk (by rw [HD5.out.num]; decide) (by rw [HK.out.1, HK.out.2.1]; decide) (by rw [HK.out.1]; exact log_ne5) (by rw [HK.out.2.1]; exact log_ne9) HK2.out.2.1 (m % 12) (by have h1 := HD5.out.len; have h2 := HD9.out.len; omega)
    have HW9 := fw_write fsOk h9 s9 t9 (by have := HK2.out.2.1.asked; show k8.asked < _; omega) HB9.out.2.vs.at HB9.out.2.vs.wf HD9.out.few (by rw [HD9.out.num]; decide)
    rw [ew] at HW9
    dsimp only at HW9
    have HK3 : Hid ((pf c4 k10).setFail (-1) = pf c4 k11 ∧ k11.quiet ∧ (Holds c4 (nameP 3 s9.num) s9.bytes ∨ (er ≠ 0 ∧ Holds c4 (nameP 3 s5.num) s5.bytes)) ∧ findN c4.names logB4 = some 3 ∧ (c4.files.getD 3 file0).b = b2) := ⟨ef, hq11, hH, hf3, hb3⟩
    obtain ⟨d0', d1', d2', d3', d4', d5', d6', d7'⟩ := HB9.out.2.box.eight
    clear HFL h9 n9 HB8 ef hq11 hH hf3 hb3 ew ha10 ha11
    go_wp2_with fail
    refine HW9.mono ?_
    rintro _ w10 ⟨rfl, R10, h10, n10⟩
    have HB10 : Hid (SB w10 R10 q5 s5 t5 ∧ SB w10 R10 q9 s9 t9) := ⟨HB9.out.1.nx n10, HB9.out.2.nx n10⟩
    have HF2 := fw_fail fsOk h10 (-1) (by omega)
    rw [HK3.out.1] at HF2
    clear HW9 h10 n10 HB9 d0' d1' d2' d3' d4' d5' d6' d7'
    go_wp2_with fail
    refine HF2.mono ?_
    rintro _ w11 ⟨rfl, R11, h11, n11⟩
    have HB11 : Hid (SB w11 R11 q5 s5 t5 ∧ SB w11 R11 q9 s9 t9) := ⟨HB10.out.1.nx n11, HB10.out.2.nx n11⟩
    obtain ⟨y, hy, HLD⟩ : ∃ y : PSt, (y = s9 ∨ (er ≠ 0 ∧ y = s5)) ∧ Calls Tryz.prog 20 #[at_ p] w11 fun e w' => ∃ t, e = .returned (.tuple #[sV y t, .int .i64 0]) ∧ ∃ R', Fw D0 wa p (pf c4 k11) R' w' ∧ Nx R11 R' w11 w' ∧ VS w' R' y.v t := by
      rcases HK3.out.2.2.1 with h | ⟨h1, h2⟩
      · exact ⟨s9, .inl rfl, fw_loadW fsOk h11 HK3.out.2.1 (by rw [HD9.out.num]; decide) h (Nat.le_trans HD9.out.len (by decide)) HD9.out.ok.errs (Nat.le_trans HD9.out.edl (by decide)) HD9.out.told⟩
      · exact ⟨s5, .inr ⟨h1, rfl⟩, fw_loadW fsOk h11 HK3.out.2.1 (by rw [HD5.out.num]; decide) h2 (Nat.le_trans HD5.out.len (by decide)) HD5.out.ok.errs (Nat.le_trans HD5.out.edl (by decide)) HD5.out.told⟩
    have HY : Hid (y = s9 ∨ (er ≠ 0 ∧ y = s5)) := hy
    clear hy HF2 h11 n11 HB10
    go_wp2_with fail
    refine HLD.mono ?_
    rintro _ w12 ⟨ty, rfl, R12, h12, n12, vy⟩
    obtain ⟨W13, R13, eW13, h13, n13, bY⟩ := Fw.box2 fsOk h12 y vy
    have HB13 : Hid (SB W13 R13 q5 s5 t5 ∧ SB W13 R13 q9 s9 t9 ∧ SB W13 R13 w12.heap.size y ty) := ⟨(HB11.out.1.nx n12).nx n13, (HB11.out.2.nx n12).nx n13, bY⟩
    have HSA := fw_same fsOk h13 HB13.out.2.2.vs.at HB13.out.1.vs.at
    obtain ⟨c0', c1', c2', c3', c4', c5', c6', c7'⟩ := HB13.out.1.box.eight
    obtain ⟨g0', g1', g2', g3', g4', g5', g6', g7'⟩ := HB13.out.2.2.box.eight
    clear HLD h12 n12 vy HB11 h13 n13 bY
    go_upto_region 19 with fail
    rw [← eW13.out]
    clear eW13
    generalize w12.heap.size = qy at HB13 g0' g1' g2' g3' g4' g5' g6' g7' ⊢
    go_wp2_with fail
    refine HSA.mono ?_
    rintro _ w14 ⟨bo, rfl, hbo, R14, h14, n14⟩
    have HB14 : Hid (SB w14 R14 q9 s9 t9 ∧ SB w14 R14 qy y ty ∧ (y.Like s5 → bo = true)) := ⟨HB13.out.2.1.nx n14, HB13.out.2.2.nx n14, hbo⟩
    clear HSA c0' c1' c2' c3' c4' c5' c6' c7' g0' g1' g2' g3' g4' g5' g6' g7' HB13 hbo
    have HSB := fw_same fsOk h14 HB14.out.2.1.vs.at HB14.out.1.vs.at
    obtain ⟨c0', c1', c2', c3', c4', c5', c6', c7'⟩ := HB14.out.1.box.eight
    obtain ⟨g0', g1', g2', g3', g4', g5', g6', g7'⟩ := HB14.out.2.1.box.eight
    clear h14 n14
    go_wp2_with fail
    refine HSB.mono ?_
    rintro _ w15 ⟨bn, rfl, hbn, R15, h15, n15⟩
    have HBN : Hid ((y.Like s5 → bo = true) ∧ (y.Like s9 → bn = true)) := ⟨HB14.out.2.2, hbn⟩
    clear HSB c0' c1' c2' c3' c4' c5' c6' c7' g0' g1' g2' g3' g4' g5' g6' g7' HB14 hbn
    have HRD := fw_read fsOk h15 logS
    rw [logS_is, read_pf HK3.out.2.1, HK3.out.2.2.2.1] at HRD
    dsimp only at HRD
    rw [HK3.out.2.2.2.2] at HRD
    clear h15 n15
    go_wp2_with fail
    refine HRD.mono ?_
    rintro _ w16 ⟨ar, cr, rfl, R16, h16, n16, br⟩
    have hbr := br.bs
    rw [hsz2] at hbr
    have hbl := HRA.out.2.1.below (Nat.le_refl _) h16.base
    have hcv1 := conv_of hbr
    have hcv2 := conv_of hbl
    have HZ : Hid (Below w.heap.size w w16) := HRA.out.2.2.2.2.2.trans (h16.base.mono HRA.out.2.2.2.2.2.size)
    clear HRD h16 n16 br hbr hbl
    have hbb : bn = true ∨ (bn = false ∧ bo = true ∧ er ≠ 0) := by
      cases bn with
      | true => exact .inl rfl
      | false =>
        rcases HY.out with h | ⟨h1, h2⟩
        · exact absurd (HBN.out.2 (by rw [h]; exact PSt.Like.refl _)) (by decide)
        · exact .inr ⟨rfl, HBN.out.1 (by rw [h2]; exact PSt.Like.refl _), h1⟩
    rcases hbb with rfl | ⟨rfl, rfl, her⟩
    · go_wp2
      try go_ret
      exact ⟨ret1 rfl, HZ.out⟩
    · have hne : ((er : Int) != 0) = true := by simp; omega
      go_wp2
      try go_ret
      exact ⟨ret1 rfl, HZ.out⟩
end Go.Proofs.YtmlfbihlbiikeaaGreatDoor
