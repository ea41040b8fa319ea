/- The contract of the document's own Decode of a batch. -/
import Derived.Test.YtohhdbmkbfehfaaRBEnc
import Derived.Test.YtohhdbmkbfehfaaPlainBDec
import Derived.Test.YtohhdbmkbfehfaaOpsOwn
import Derived.Test.YtohhdbmkbfehfaaRUv
import Derived.Test.YtohhdbmkbfehfaaRFx
import Derived.Test.YtohhdbmkbfehfaaSliceFrom
namespace Go.Proofs.Ytohhdbmkbfehfaa
open Go.RowKit
theorem bDec_short {bs : List UInt8} (h : bs.length < 12) : bDec bs = (0, [], 32) := by unfold bDec; rw [if_pos h]
theorem bDec_many {bs : List UInt8} (h : 64 < leNat ((bs.drop 8).take 4)) : bDec bs = (0, [], 32) := by
  unfold bDec
  split
  · rfl
  · rfl
set_option maxRecDepth 100000 in
set_option maxHeartbeats 4000000 in
theorem rbdecode_any (a : Option Addr) (len cap : Nat) (bs : List UInt8) (w : World) (h : BsAt w a len cap bs) :
    Calls Try.prog 16 #[.slice a len cap] w fun e w' => ∃ a' n c', e = .returned (.tuple #[.int .u64 (((bDec bs).1 : Nat) : Int), .slice a' n c', .int .i64 (((bDec bs).2.2 : Nat) : Int)]) ∧ OpsAt w' a' n c' (bDec bs).2.1 ∧ (∀ ad, a' = some ad → w.heap.size ≤ ad.block) ∧ Below w.heap.size w w' := by
  have hcap := h.max
  have hle := h.le
  have hlen := h.size
  unfold maxLen at hcap
  by_cases h1 : len < 12
  · have HE : Hid (bDec bs = (0, [], 32)) := bDec_short (by omega)
    clear h hlen
    go_enter Try.func16, Try.ntmps16
    go_wp2_with fail
    go_ret3
    rw [HE.out]
    exact ⟨none, 0, 0, ret3 rfl rfl rfl, OpsAt.nil _, (fun _ h => by cases h), Below.refl _ _⟩
  · obtain ⟨b, off, rfl, hcells⟩ := h.here (by omega)
    have HS8 : Hid (fxRead bs 8 = (leNat (bs.take 8), 0)) := by
      unfold fxRead Hid
      rw [if_neg (by omega), if_neg (by simp; omega)]
      rfl
    have HS4 : Hid (fxRead (bs.drop 8) 4 = (leNat ((bs.drop 8).take 4), 0)) := by
      unfold fxRead Hid
      rw [if_neg (by omega), if_neg (by simp; omega)]
      rfl
    have HT8 : Hid (BsAt w (some ⟨b, off + 8, none⟩) (len - 8) (cap - 8) (bs.drop 8)) := by
      have := h.sub 8 (len - 8) (by omega)
      rwa [List.take_of_length_le (by simp; omega)] at this
    have HQ : leNat (bs.take 8) < 18446744073709551616 := leNat_lt64 _ (by simp; omega)
    have HN4 : leNat ((bs.drop 8).take 4) < 18446744073709551616 := leNat_lt64 _ (by simp; omega)
    have HB : Hid (BsAt w (some ⟨b, off, none⟩) len cap bs) := h
    have HL : Hid (bs.length = len) := hlen
    clear h hlen hcells
    by_cases h2 : 64 < leNat ((bs.drop 8).take 4)
    · have HE : Hid (bDec bs = (0, [], 32)) := bDec_many h2
      generalize leNat ((bs.drop 8).take 4) = N at h2 HS4 HN4
      generalize leNat (bs.take 8) = q at HS8 HQ
      go_enter Try.func16, Try.ntmps16
      go_wp2_with fail
      refine (rfixed_any _ _ _ bs 8 _ HB.out).mono ?_
      rw [HS8.out]
      rintro e w1 ⟨rfl, rfl⟩
      go_wp2_with fail
      refine (rfixed_any _ _ _ (bs.drop 8) 4 _ HT8.out).mono ?_
      rw [HS4.out]
      rintro e w2 ⟨rfl, rfl⟩
      go_wp2_with fail
      go_ret3
      rw [HE.out]
      exact ⟨none, 0, 0, ret3 rfl rfl rfl, OpsAt.nil _, (fun _ h => by cases h), Below.refl _ _⟩
    · have hSome := fun (l : List Opn) => bDec_some (bs := bs) (l := l) (by rw [HL.out]; omega) (by omega)
      have hNone := bDec_none (bs := bs)
      generalize leNat ((bs.drop 8).take 4) = N at h2 HS4 HN4 hSome hNone
      generalize leNat (bs.take 8) = q at HS8 HQ hSome
      have HSome : Hid (∀ l, _) := hSome
      have HNone : Hid (_ → _) := hNone
      clear hSome hNone
      obtain ⟨o12, hsl12, hbs12⟩ := slice_from b off len cap 12 (by omega) hle
      have hsl12 : ∀ W : World, (Instr.slice 25 (.slice (some ⟨b, off, none⟩) len cap) (some (.int .i64 12)) none none).run Try.prog W = .ok (.slice (some ⟨b, o12, none⟩) (len - 12) (cap - 12)) W := hsl12
      have HR12 : Hid (∀ (W : World) (bs : List UInt8), BsAt W (some ⟨b, off, none⟩) len cap bs → BsAt W (some ⟨b, o12, none⟩) (len - 12) (cap - 12) (bs.drop 12)) := hbs12
      clear hbs12
      go_enter Try.func16, Try.ntmps16
      go_wp2_with fail
      refine (rfixed_any _ _ _ bs 8 _ HB.out).mono ?_
      rw [HS8.out]
      rintro e w1 ⟨rfl, rfl⟩
      go_wp2_with fail
      refine (rfixed_any _ _ _ (bs.drop 8) 4 _ HT8.out).mono ?_
      rw [HS4.out]
      rintro e w2 ⟨rfl, rfl⟩
      go_wp2_with fail
      go_loopw [9, 10, 11] (fun o r i wr => ∃ (ao : Option Addr) (co k p orr lr cr : Nat) (L : List Opn), k ≤ N ∧ p ≤ len ∧ lr ≤ cr ∧ o = .slice ao k co ∧ r = .slice (some ⟨b, orr, none⟩) lr cr ∧ i = .int .i64 (k : Int) ∧ Hid (OwnO wr w2.heap.size ao k co L) ∧ Hid (BsAt w2 (some ⟨b, orr, none⟩) lr cr (bs.drop p)) ∧ Hid (goesOn bs N k p L) ∧ Hid (Below w2.heap.size w2 wr)) (fun _ _ i _ => N - (intOf i).toNat)
      case atStart => exact ⟨none, 0, 0, 12, o12, len - 12, cap - 12, [], by omega, by omega, by omega, rfl, rfl, rfl, OwnO.nil _ _, HR12.out _ _ HB.out, goesOn_start bs N, Below.refl _ _⟩
      case round =>
        obtain ⟨ao, co, k, p, orr, lr, cr, L, hk, hp, hlc, rfl, rfl, rfl, HO, HR, HG, HW⟩ := hrel
        have hsz := HW.out.size
        have HLR : Hid (lr = len - p) := by have := HR.out.size; rw [List.length_drop, HL.out] at this; unfold Hid; omega
        by_cases hlt : k < N
        · by_cases hpl : p < len
          · have hl1 : 1 ≤ lr := by have := HLR.out; omega
            have hl0 : ((lr : Int) == 0) = false := by simp; omega
            obtain ⟨b', off', he, hc⟩ := (HR.out.below (Nat.le_refl _) HW.out).here (by omega)
            simp only [Option.some.injEq, Addr.mk.injEq, and_true] at he
            obtain ⟨rfl, rfl⟩ := he
            have hc0 := hc 0 (by omega)
            rw [Nat.add_zero] at hc0
            have hgd : (bs.drop p).getD 0 0 = bs.getD p 0 := by simp [List.getD]
            rw [hgd] at hc0
            obtain ⟨cc, HCC⟩ : ∃ cc, Hid (bs.getD p 0 = cc) := ⟨_, rfl⟩
            rw [HCC.out] at hc0
            have hcc := UInt8.toNat_lt cc
            have hwc : wrap64 (cc.toNat : Int) = (cc.toNat : Int) := by unfold wrap64; omega
            clear hc hgd hcc
            obtain ⟨o1, hsl1, hbs1⟩ := slice_from b orr lr cr 1 (by omega) hlc
            have hsl1 : ∀ W : World, (Instr.slice 25 (.slice (some ⟨b, orr, none⟩) lr cr) (some (.int .i64 1)) none none).run Try.prog W = .ok (.slice (some ⟨b, o1, none⟩) (lr - 1) (cr - 1)) W := hsl1
            have HR1 : Hid (BsAt w2 (some ⟨b, o1, none⟩) (lr - 1) (cr - 1) (bs.drop (p + 1))) := by
              have := hbs1 _ _ HR.out
              rwa [List.drop_drop] at this
            clear hbs1
            have HT1 := txtRead_le (bs.drop (p + 1))
            have hrt := fun W (hW : BsAt W (some ⟨b, o1, none⟩) (lr - 1) (cr - 1) (bs.drop (p + 1))) => rtext_any _ _ _ _ W hW
            have hK := opRead_key (bs := bs) (p := p) (by rw [HL.out]; exact hpl)
            have hD := opRead_del (bs := bs) (p := p) (by rw [HL.out]; exact hpl)
            have hV := fun p1 => opRead_val (bs := bs) (p := p) (p1 := p1) (by rw [HL.out]; exact hpl)
            have hP := fun p1 => opRead_put (bs := bs) (p := p) (p1 := p1) (by rw [HL.out]; exact hpl)
            rw [HCC.out] at hD
            simp only [HCC.out] at hV hP
            rw [List.length_drop, HL.out] at HT1
            generalize (txtRead (bs.drop (p + 1))).2.2 = e1 at hrt hK hD hV hP HT1
            generalize (txtRead (bs.drop (p + 1))).2.1 = k1 at hrt hD hV hP HT1
            generalize strOf (txtRead (bs.drop (p + 1))).1 = s1 at hrt hD hP
            have HRT : Hid (∀ W, BsAt W (some ⟨b, o1, none⟩) (lr - 1) (cr - 1) (bs.drop (p + 1)) → _) := hrt
            by_cases he1 : e1 = 0
            · obtain rfl := he1
              have hk1 := HT1 rfl
              have hlr1 : 1 + k1 ≤ lr := by have := HLR.out; omega
              obtain ⟨o2, hsl2, hbs2⟩ := slice_from b orr lr cr (1 + k1) hlr1 hlc
              have hsl2' : ∀ W : World, (Instr.slice 25 (.slice (some ⟨b, orr, none⟩) lr cr) (some (.int .i64 (1 + (k1 : Int)))) none none).run Try.prog W = .ok (.slice (some ⟨b, o2, none⟩) (lr - (1 + k1)) (cr - (1 + k1))) W := hsl2
              have HR2 : Hid (BsAt w2 (some ⟨b, o2, none⟩) (lr - (1 + k1)) (cr - (1 + k1)) (bs.drop (p + 1 + k1))) := by
                have := hbs2 _ _ HR.out
                rwa [List.drop_drop, ← Nat.add_assoc] at this
              clear hbs2 hsl2 hrt hK HT1
              have hcrb : cr ≤ 9223372036854775807 := HR.out.max
              by_cases hc1 : cc.toNat = 1
              · have hc1' : ((cc.toNat : Int) == 1) = true := by simp [hc1]
                have HC1 : Hid (cc.toNat = 1) := hc1
                have hT2 := txtRead_le (bs.drop (p + 1 + k1))
                have hrt2 := fun W (hW : BsAt W (some ⟨b, o2, none⟩) (lr - (1 + k1)) (cr - (1 + k1)) (bs.drop (p + 1 + k1))) => rtext_any _ _ _ _ W hW
                have hV' := hV _ rfl hc1 rfl
                have hP' := hP _ rfl hc1 rfl
                rw [List.length_drop, HL.out] at hT2
                generalize (txtRead (bs.drop (p + 1 + k1))).2.2 = e2 at hrt2 hV' hP' hT2
                generalize (txtRead (bs.drop (p + 1 + k1))).2.1 = k2 at hrt2 hP' hT2
                generalize strOf (txtRead (bs.drop (p + 1 + k1))).1 = s2 at hrt2 hP'
                have HRT2 : Hid (∀ W, BsAt W (some ⟨b, o2, none⟩) (lr - (1 + k1)) (cr - (1 + k1)) (bs.drop (p + 1 + k1)) → _) := hrt2
                clear hV hP hD hc1 hrt2
                by_cases he2 : e2 = 0
                · obtain rfl := he2
                  have hk2 := hT2 rfl
                  have hlr2 : k2 ≤ lr - (1 + k1) := by have := HLR.out; omega
                  obtain ⟨o3, hsl3, hbs3⟩ := slice_from b o2 (lr - (1 + k1)) (cr - (1 + k1)) k2 hlr2 (by omega)
                  have HR3 : Hid (BsAt w2 (some ⟨b, o3, none⟩) (lr - (1 + k1) - k2) (cr - (1 + k1) - k2) (bs.drop (p + 1 + k1 + k2))) := by
                    have := hbs3 _ _ HR2.out
                    rwa [List.drop_drop] at this
                  have HN : Hid (opRead (bs.drop p) = some (⟨1, s1, s2⟩, bs.drop (p + 1 + k1 + k2))) := hP' rfl
                  clear hbs3 hV' hP' hT2
                  go_wp2_with fail
                  refine (HRT.out _ (HR1.out.below (Nat.le_refl _) (HW.out.alloc hsz _))).mono ?_
                  rintro e w3 ⟨rfl, rfl⟩
                  go_wp2_with (first
                    | (go_at_call 25; refine (HRT2.out _ (HR2.out.below (Nat.le_refl _) (HW.out.alloc hsz _))).mono ?_; rintro e w3 ⟨rfl, rfl⟩)
                    | (at_builtin; refine wpList_appO _ rfl _ _ rfl w2.heap.size _ _ _ L rfl ((HO.out.alloc _).alloc _) _ _ _ [⟨(cc.toNat : Int), s1, s2⟩] rfl (OpsAt.oneAt (by simp)) (by omega) (by simp; omega) ?_))
                  intro a4 c4 w4 ho4 hb4
                  have HO4 : Hid (OwnO w4 w2.heap.size a4 (k + 1) c4 (L ++ [⟨1, s1, s2⟩])) := by rw [HC1.out] at ho4; exact ho4
                  have HB4 : Hid (Below w2.heap.size w2 w4) := ((HW.out.alloc hsz _).alloc (by simp; omega) _).trans hb4
                  clear ho4 hb4
                  go_wp2_with fail
                  go_roundw
                  case rel => exact ⟨a4, c4, k + 1, p + 1 + k1 + k2, o3, lr - (1 + k1) - k2, cr - (1 + k1) - k2, _, by omega, by omega, by omega, rfl, rfl, by go_num, HO4.out, HR3.out, goesOn_next HG.out hlt HN.out, HB4.out⟩
                  case measure => simp [intOf]; omega
                · have HE : Hid (bDec bs = (0, [], 32)) := HNone.out (goesOn_bad HG.out hlt (hV' he2))
                  have he2' : ((e2 : Int) != 0) = true := by simp; omega
                  clear hV' hP' hT2 he2
                  go_wp2_with fail
                  refine (HRT.out _ (HR1.out.below (Nat.le_refl _) (HW.out.alloc hsz _))).mono ?_
                  rintro e w3 ⟨rfl, rfl⟩
                  go_wp2_with fail
                  refine (HRT2.out _ (HR2.out.below (Nat.le_refl _) (HW.out.alloc hsz _))).mono ?_
                  rintro e w3 ⟨rfl, rfl⟩
                  go_wp2_with fail
                  go_ret3
                  rw [HE.out]
                  exact ⟨none, 0, 0, ret3 rfl rfl rfl, OpsAt.nil _, (fun _ h => by cases h), HW.out.alloc hsz _⟩
              · have hc1' : ((cc.toNat : Int) == 1) = false := by simp; omega
                have HN : Hid (opRead (bs.drop p) = some (⟨(cc.toNat : Int), s1, ByteArray.empty⟩, bs.drop (p + 1 + k1))) := hD rfl hc1
                clear hD hV hP hc1
                go_wp2_with (first
                  | (go_at_call 25; refine (HRT.out _ (HR1.out.below (Nat.le_refl _) (HW.out.alloc hsz _))).mono ?_; rintro e w3 ⟨rfl, rfl⟩)
                  | (at_builtin; refine wpList_appO _ rfl _ _ rfl w2.heap.size _ _ _ L rfl ((HO.out.alloc _).alloc _) _ _ _ [⟨(cc.toNat : Int), s1, ⟨#[]⟩⟩] rfl (OpsAt.oneAt (by simp)) (by omega) (by simp; omega) ?_))
                intro a4 c4 w4 ho4 hb4
                have HO4 : Hid (OwnO w4 w2.heap.size a4 (k + 1) c4 (L ++ [⟨(cc.toNat : Int), s1, ⟨#[]⟩⟩])) := ho4
                have HB4 : Hid (Below w2.heap.size w2 w4) := ((HW.out.alloc hsz _).alloc (by simp; omega) _).trans hb4
                clear ho4 hb4
                go_wp2_with fail
                go_roundw
                case rel => exact ⟨a4, c4, k + 1, p + 1 + k1, o2, lr - (1 + k1), cr - (1 + k1), _, by omega, by omega, by omega, rfl, rfl, by go_num, HO4.out, HR2.out, goesOn_next HG.out hlt HN.out, HB4.out⟩
                case measure => simp [intOf]; omega
            · have HE : Hid (bDec bs = (0, [], 32)) := HNone.out (goesOn_bad HG.out hlt (hK he1))
              have he1' : ((e1 : Int) != 0) = true := by simp; omega
              clear hrt hK hD hV hP HT1 he1
              go_wp2_with fail
              refine (HRT.out _ (HR1.out.below (Nat.le_refl _) (HW.out.alloc hsz _))).mono ?_
              rintro e w3 ⟨rfl, rfl⟩
              go_wp2_with fail
              go_ret3
              rw [HE.out]
              exact ⟨none, 0, 0, ret3 rfl rfl rfl, OpsAt.nil _, (fun _ h => by cases h), HW.out.alloc hsz _⟩
          · have hl0 : ((lr : Int) == 0) = true := by have := HLR.out; simp; omega
            have HE : Hid (bDec bs = (0, [], 32)) := HNone.out (goesOn_bad HG.out hlt (opRead_nil (by rw [HL.out]; omega)))
            go_wp2_with fail
            go_ret3
            rw [HE.out]
            exact ⟨none, 0, 0, ret3 rfl rfl rfl, OpsAt.nil _, (fun _ h => by cases h), HW.out⟩
        · obtain rfl : k = N := by omega
          have HF := HSome.out L (goesOn_end HG.out)
          have henc := fun W (hW : OpsAt W ao k co L) => rbencode_any q ao k co L W HQ hW
          by_cases hq0 : bchk q L = 0
          · by_cases hq1 : bEnc q L = bs
            · rw [if_pos ⟨hq0, hq1⟩] at HF
              have HF : Hid (bDec bs = (q, L, 0)) := HF
              rw [hq0, hq1, HL.out] at henc
              have HENC : Hid (∀ W, OpsAt W ao k co L → _) := henc
              clear henc hq0 hq1
              go_wp2_with fail
              refine (HENC.out _ HO.out.ops).mono ?_
              rintro e w4 ⟨a4, c4, rfl, hb4, hB4⟩
              have hc4 := conv_of hb4
              have hcb := conv_of ((HB.out.below (Nat.le_refl _) HW.out).below (Nat.le_refl _) hB4)
              have HB4 : Hid (Below w2.heap.size w2 w4) := HW.out.trans (hB4.mono hsz)
              have HO4 : Hid (OpsAt w4 ao k co L) := HO.out.ops.below (Nat.le_refl _) hB4
              clear hb4 hB4
              go_wp2_with fail
              go_ret3
              rw [HF.out]
              exact ⟨ao, k, co, ret3 rfl rfl rfl, HO4.out, HO.out.fresh, HB4.out⟩
            · rw [if_neg (fun h => hq1 h.2)] at HF
              have HF : Hid (bDec bs = (0, [], 32)) := HF
              rw [hq0] at henc
              have HNE : ((strOf (bEnc q L)).toList == (strOf bs).toList) = false := by
                rw [ByteArray.toList_eq, ByteArray.toList_eq]
                simpa [strOf] using hq1
              generalize bEnc q L = X at henc HNE
              have HENC : Hid (∀ W, OpsAt W ao k co L → _) := henc
              clear henc hq0 hq1
              go_wp2_with fail
              refine (HENC.out _ HO.out.ops).mono ?_
              rintro e w4 ⟨a4, c4, rfl, hb4, hB4⟩
              have hc4 := conv_of hb4
              have hcb := conv_of ((HB.out.below (Nat.le_refl _) HW.out).below (Nat.le_refl _) hB4)
              have HB4 : Hid (Below w2.heap.size w2 w4) := HW.out.trans (hB4.mono hsz)
              clear hb4 hB4
              go_wp2_with fail
              go_ret3
              rw [HF.out]
              exact ⟨none, 0, 0, ret3 rfl rfl rfl, OpsAt.nil _, (fun _ h => by cases h), HB4.out⟩
          · rw [if_neg (fun h => hq0 h.1)] at HF
            have HF : Hid (bDec bs = (0, [], 32)) := HF
            have hne : (((bchk q L : Nat) : Int) != 0) = true := by simp; omega
            generalize bchk q L = cq at henc hne
            generalize bEnc q L = X at henc
            have HENC : Hid (∀ W, OpsAt W ao k co L → _) := henc
            clear henc hq0
            go_wp2_with fail
            refine (HENC.out _ HO.out.ops).mono ?_
            rintro e w4 ⟨a4, c4, rfl, hb4, hB4⟩
            have HB4 : Hid (Below w2.heap.size w2 w4) := HW.out.trans (hB4.mono hsz)
            clear hb4 hB4
            go_wp2_with fail
            go_ret3
            rw [HF.out]
            exact ⟨none, 0, 0, ret3 rfl rfl rfl, OpsAt.nil _, (fun _ h => by cases h), HB4.out⟩
end Go.Proofs.Ytohhdbmkbfehfaa
