/- The contract of batch.Encode: the bytes of operations, or what is wrong with them. -/
import Derived.Test.YtohhdbmkbfehfaaBChk
import Derived.Test.YtohhdbmkbfehfaaPlainBEnc
import Derived.Test.YtohhdbmkbfehfaaPutFx
import Derived.Test.YtohhdbmkbfehfaaPutNilTx
import Derived.Test.YtohhdbmkbfehfaaKept
namespace Go.Proofs.Ytohhdbmkbfehfaa
open Go.RowKit
set_option maxRecDepth 100000 in
set_option maxHeartbeats 2000000 in
theorem bencode_any (q : Nat) (a : Option Addr) (n c : Nat) (l : List Opn) (w : World) (hq : q < 18446744073709551616) (h : OpsAt w a n c l) :
    Calls Try.prog 10 #[.int .u64 (q : Int), .slice a n c] w fun e w' => ∃ a' c', e = .returned (.tuple #[.slice a' (bEnc q l).length c', .int .i64 ((bchk q l : Nat) : Int)]) ∧ BsAt w' a' (bEnc q l).length c' (bEnc q l) ∧ Below w.heap.size w w' := by
  have hck := fun W (hW : OpsAt W a n c l) => bcheck_any q a n c l W hq hW
  by_cases h0 : bchk q l = 0
  · obtain ⟨hn, hq1, _, hall⟩ := bchk_zero h0
    have hs := h.size
    have HE : Hid (bEnc q l = fxEnc q 8 ++ (fxEnc l.length 4 ++ opsEnc l)) := bEnc_yes h0
    have H0 : Hid (bchk q l = 0) := h0
    rw [h0] at hck
    have HCK : Hid (∀ W, OpsAt W a n c l → _) := hck
    have H1 : Hid (OpsAt w a n c l) := h
    have HS : Hid (l.length = n) := hs
    have HALL : Hid (opsChk l = 0) := hall
    rw [hs] at hn
    clear hck h hs h0 hall
    go_enter Try.func10, Try.ntmps10
    go_wp2_with fail
    refine (HCK.out _ H1.out).mono ?_
    rintro e w1 ⟨rfl, hb1⟩
    have HB1 : Hid (Below w.heap.size w w1) := hb1
    clear hb1
    go_wp2_with fail
    refine (putFixed_any none 0 0 [] q 8 _ (BsAt.nil _) hq (by omega)).mono ?_
    rintro e w2 ⟨a2, c2, rfl, ho2, hb2⟩
    have HB2 : Hid (Below w.heap.size w w2) := HB1.out.trans (hb2.mono HB1.out.size)
    have HO2 : Hid (OwnB w2 w.heap.size a2 8 c2 (fxEnc q 8)) := by
      unfold Hid
      have := ho2.mono HB1.out.size
      rw [show fxPut q 8 = fxEnc q 8 from rfl, fxEnc_length] at this
      simpa using this
    clear ho2 hb2
    have hl8 : 0 + (fxPut q 8).length = 8 := by rw [show fxPut q 8 = fxEnc q 8 from rfl, fxEnc_length]
    rw [hl8]
    clear hl8
    go_wp2_with fail
    refine (putFixed_any a2 8 c2 (fxEnc q 8) n 4 _ HO2.out.bs (by omega) (by omega)).mono ?_
    rintro e w3 ⟨a3, c3, rfl, ho3, hb3⟩
    have HB3 : Hid (Below w.heap.size w w3) := HB2.out.trans (hb3.mono HB2.out.size)
    obtain ⟨P, hP⟩ : ∃ P, P = fxEnc q 8 ++ fxEnc n 4 := ⟨_, rfl⟩
    have HO3 : Hid (OwnB w3 w.heap.size a3 12 c3 P) := by
      unfold Hid
      have := ho3.mono HB2.out.size
      rw [show fxPut n 4 = fxEnc n 4 from rfl, fxEnc_length, ← hP] at this
      exact this
    have HP : Hid (P = fxEnc q 8 ++ fxEnc n 4) := hP
    clear ho3 hb3 hP
    have hl12 : 8 + (fxPut n 4).length = 12 := by rw [show fxPut n 4 = fxEnc n 4 from rfl, fxEnc_length]
    rw [hl12]
    clear hl12 HO2 HB2 HB1
    go_wp2_with fail
    go_loopw [7, 25] (fun v i wr => ∃ (a3 : Option Addr) (m c3 k : Nat), k ≤ n ∧ m ≤ 12 + k * 1100 ∧ v = .slice a3 m c3 ∧ i = .int .i64 k ∧ Hid (OwnB wr w.heap.size a3 m c3 (P ++ opsEnc (l.take k))) ∧ Hid (Below w.heap.size w wr)) (fun _ i _ => n - (intOf i).toNat)
    case atStart => exact ⟨a3, 12, c3, 0, Nat.zero_le _, by omega, rfl, rfl, by simpa [Hid, opsEnc] using HO3.out, HB3.out⟩
    case round =>
      obtain ⟨a3, m, c3, k, hk, hm, rfl, rfl, HO, HB⟩ := hrel
      have hsz := HB.out.size
      by_cases hlt : k < n
      · obtain ⟨b, off, rfl, hc⟩ := (H1.out.below (Nat.le_refl _) HB.out).here (by omega)
        obtain ⟨p0, p1, p2⟩ := hc k hlt
        have hok := opsChk_all l HALL.out k (by rw [HS.out]; exact hlt)
        have HT : Hid (_ = _) := opsEnc_take l k (by rw [HS.out]; exact hlt)
        generalize l.getD k opn0 = x at p0 p1 p2 hok HT
        obtain ⟨g1, g2, g3, _⟩ := opChk_zero hok
        obtain ⟨xk, xs, xv⟩ := x
        simp only at g1 g2 g3 p0 p1 p2
        have hx1 : (0 : Int) ≤ (k : Int) := by omega
        have hx2 : (k : Int) < (n : Int) := by omega
        have u1 := txtPut_len xs.data.toList
        have u2 := txtPut_len xv.data.toList
        rw [data_len] at u1 u2
        obtain ⟨L1, hL1⟩ : ∃ L, (txtPut xs.data.toList).length = L := ⟨_, rfl⟩
        obtain ⟨L2, hL2⟩ : ∃ L, (txtPut xv.data.toList).length = L := ⟨_, rfl⟩
        rw [hL1] at u1
        rw [hL2] at u2
        have HL1 : Hid (_ = _) := hL1
        have HL2 : Hid (_ = _) := hL2
        clear hc hok hL1 hL2
        have hm64 : m ≤ 12 + 64 * 1100 := by omega
        rcases g1 with rfl | rfl
        · have HKD : Hid (opEnc ⟨0, xs, xv⟩ = loByte 0 :: (txtPut xs.data.toList ++ [])) := rfl
          go_wp2_with (first
            | (at_builtin; refine wpList_app _ rfl _ _ rfl w.heap.size _ _ _ (P ++ opsEnc (l.take k)) rfl ((HO.out.alloc _).alloc _) _ _ _ [loByte 0] rfl (BsAt.oneAt (by simp) rfl) (by omega) (by simp; omega) ?_))
          intro a4 c4 w4 ho4 hb4 hg4
          have HR4 : Hid (Rec3 w4 wr.heap.size (.int .i64 0) (.string xs) (.string xv)) := ((Rec3.new wr _ rfl _ _ _ _).alloc _).grown hg4 (HO.out.notAt (Nat.le_refl _))
          have HO4 : Hid (OwnB w4 w.heap.size a4 (m + 1) c4 (P ++ opsEnc (l.take k) ++ [loByte 0])) := by unfold Hid; simpa using ho4
          have HB4 : Hid (Below w.heap.size w w4) := ((HB.out.alloc hsz _).alloc (by simp; omega) _).trans hb4
          clear ho4 hb4 hg4 p0 p1 p2
          obtain ⟨t0, t1, t2, _, _, _, _⟩ := HR4.out
          go_wp2_with (first
            | (go_at_call 18; refine (putTx_nil xs L1 _ (by omega) HL1.out).mono ?_; rintro e w5 ⟨a5, c5, rfl, ho5, hb5⟩;
               have HS5 : Hid (BsAt w5 a5 L1 c5 (txtPut xs.data.toList)) := ho5;
               have HO5 : Hid (OwnB w5 w.heap.size a4 (m + 1) c4 (P ++ opsEnc (l.take k) ++ [loByte 0])) := HO4.out.below hb5;
               have HR5 : Hid (Rec3 w5 wr.heap.size (.int .i64 0) (.string xs) (.string xv)) := HR4.out.below (Nat.le_refl _) hb5;
               have HB5 : Hid (Below w.heap.size w w5) := HB4.out.trans (hb5.mono HB4.out.size);
               clear ho5 hb5 t0 t1 t2)
            | (at_builtin; refine wpList_app _ rfl _ _ rfl w.heap.size _ _ _ (P ++ opsEnc (l.take k) ++ [loByte 0]) rfl HO5.out _ _ _ (txtPut xs.data.toList) rfl HS5.out (by omega) HB5.out.size ?_))
          intro a6 c6 w6 ho6 hb6 hg6
          have HR6 : Hid (Rec3 w6 wr.heap.size (.int .i64 0) (.string xs) (.string xv)) := HR5.out.grown hg6 (HO5.out.notRec (by omega) HR5.out)
          have HO6 : Hid (OwnB w6 w.heap.size a6 (m + 1 + L1) c6 (P ++ opsEnc (l.take k) ++ [loByte 0] ++ txtPut xs.data.toList)) := by unfold Hid; simpa using ho6
          have HB6 : Hid (Below w.heap.size w w6) := HB5.out.trans hb6
          clear ho6 hb6 hg6
          obtain ⟨t0, t1, t2, _, _, _, _⟩ := HR6.out
          go_wp2_with fail
          go_roundw
          case rel =>
            refine ⟨a6, m + 1 + L1, c6, k + 1, by omega, by omega, rfl, by go_num, ?_, HB6.out⟩
            have h6 := HO6.out
            unfold Hid
            rw [HT.out, HKD.out]
            simpa using h6
          case measure => simp [intOf]; omega
        · have HKD : Hid (opEnc ⟨1, xs, xv⟩ = loByte 1 :: (txtPut xs.data.toList ++ txtPut xv.data.toList)) := rfl
          go_wp2_with (first
            | (at_builtin; refine wpList_app _ rfl _ _ rfl w.heap.size _ _ _ (P ++ opsEnc (l.take k)) rfl ((HO.out.alloc _).alloc _) _ _ _ [loByte 1] rfl (BsAt.oneAt (by simp) rfl) (by omega) (by simp; omega) ?_))
          intro a4 c4 w4 ho4 hb4 hg4
          have HR4 : Hid (Rec3 w4 wr.heap.size (.int .i64 1) (.string xs) (.string xv)) := ((Rec3.new wr _ rfl _ _ _ _).alloc _).grown hg4 (HO.out.notAt (Nat.le_refl _))
          have HO4 : Hid (OwnB w4 w.heap.size a4 (m + 1) c4 (P ++ opsEnc (l.take k) ++ [loByte 1])) := by unfold Hid; simpa using ho4
          have HB4 : Hid (Below w.heap.size w w4) := ((HB.out.alloc hsz _).alloc (by simp; omega) _).trans hb4
          clear ho4 hb4 hg4 p0 p1 p2
          obtain ⟨t0, t1, t2, _, _, _, _⟩ := HR4.out
          go_wp2_with (first
            | (go_at_call 18; refine (putTx_nil xs L1 _ (by omega) HL1.out).mono ?_; rintro e w5 ⟨a5, c5, rfl, ho5, hb5⟩;
               have HS5 : Hid (BsAt w5 a5 L1 c5 (txtPut xs.data.toList)) := ho5;
               have HO5 : Hid (OwnB w5 w.heap.size a4 (m + 1) c4 (P ++ opsEnc (l.take k) ++ [loByte 1])) := HO4.out.below hb5;
               have HR5 : Hid (Rec3 w5 wr.heap.size (.int .i64 1) (.string xs) (.string xv)) := HR4.out.below (Nat.le_refl _) hb5;
               have HB5 : Hid (Below w.heap.size w w5) := HB4.out.trans (hb5.mono HB4.out.size);
               clear ho5 hb5 t0 t1 t2)
            | (at_builtin; refine wpList_app _ rfl _ _ rfl w.heap.size _ _ _ (P ++ opsEnc (l.take k) ++ [loByte 1]) rfl HO5.out _ _ _ (txtPut xs.data.toList) rfl HS5.out (by omega) HB5.out.size ?_))
          intro a6 c6 w6 ho6 hb6 hg6
          have HR6 : Hid (Rec3 w6 wr.heap.size (.int .i64 1) (.string xs) (.string xv)) := HR5.out.grown hg6 (HO5.out.notRec (by omega) HR5.out)
          have HO6 : Hid (OwnB w6 w.heap.size a6 (m + 1 + L1) c6 (P ++ opsEnc (l.take k) ++ [loByte 1] ++ txtPut xs.data.toList)) := by unfold Hid; simpa using ho6
          have HB6 : Hid (Below w.heap.size w w6) := HB5.out.trans hb6
          clear ho6 hb6 hg6
          obtain ⟨t0, t1, t2, _, _, _, _⟩ := HR6.out
          go_wp2_with (first
            | (go_at_call 18; refine (putTx_nil xv L2 _ (by omega) HL2.out).mono ?_; rintro e w7 ⟨a7, c7, rfl, ho7, hb7⟩;
               have HS7 : Hid (BsAt w7 a7 L2 c7 (txtPut xv.data.toList)) := ho7;
               have HO7 : Hid (OwnB w7 w.heap.size a6 (m + 1 + L1) c6 (P ++ opsEnc (l.take k) ++ [loByte 1] ++ txtPut xs.data.toList)) := HO6.out.below hb7;
               have HB7 : Hid (Below w.heap.size w w7) := HB6.out.trans (hb7.mono HB6.out.size);
               clear ho7 hb7 t0 t1 t2)
            | (at_builtin; refine wpList_app _ rfl _ _ rfl w.heap.size _ _ _ (P ++ opsEnc (l.take k) ++ [loByte 1] ++ txtPut xs.data.toList) rfl HO7.out _ _ _ (txtPut xv.data.toList) rfl HS7.out (by omega) HB7.out.size ?_))
          intro a8 c8 w8 ho8 hb8 _
          have HO8 : Hid (OwnB w8 w.heap.size a8 (m + 1 + L1 + L2) c8 (P ++ opsEnc (l.take k) ++ [loByte 1] ++ txtPut xs.data.toList ++ txtPut xv.data.toList)) := by unfold Hid; simpa using ho8
          have HB8 : Hid (Below w.heap.size w w8) := HB7.out.trans hb8
          clear ho8 hb8
          go_wp2_with fail
          go_roundw
          case rel =>
            refine ⟨a8, m + 1 + L1 + L2, c8, k + 1, by omega, by omega, rfl, by go_num, ?_, HB8.out⟩
            have h8 := HO8.out
            unfold Hid
            rw [HT.out, HKD.out]
            simpa using h8
          case measure => simp [intOf]; omega
      · have hkn : k = n := by omega
        have HF : Hid (bEnc q l = P ++ opsEnc (l.take k)) := by
          unfold Hid
          rw [HE.out, HP.out, HS.out, hkn, List.take_of_length_le (by rw [HS.out]; exact Nat.le_refl _), List.append_assoc]
        have HL : Hid ((bEnc q l).length = m) := by unfold Hid; rw [HF.out]; exact HO.out.size
        clear hkn
        go_wp2_with fail
        go_ret2
        rw [HL.out, HF.out, H0.out]
        exact ⟨a3, c3, ret2 rfl rfl, HO.out.bs, HB.out⟩
  · have HE : Hid (bEnc q l = []) := bEnc_no h0
    have hne : (((bchk q l : Nat) : Int) != 0) = true := by simp; omega
    generalize bchk q l = k at hne hck
    go_enter Try.func10, Try.ntmps10
    go_wp2_with fail
    refine (hck _ h).mono ?_
    rintro e w1 ⟨rfl, hb1⟩
    go_wp2_with fail
    go_ret2
    rw [HE.out]
    exact ⟨none, 0, ret2 rfl rfl, BsAt.nil _, hb1⟩
end Go.Proofs.Ytohhdbmkbfehfaa
