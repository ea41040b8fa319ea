/- The walk of ManifestLays. -/
import Derived.Test.YtmlfbihlbiikeabGreatDoorQa38
import Derived.Test.YtmlfbihlbiikeabGreatDoorQa28
import Derived.Test.YtmlfbihlbiikeabGreatDoorQa21
import Derived.Test.YtmlfbihlbiikeabGreatDoorQa16
namespace Go.Proofs.YtmlfbihlbiikeabGreatDoor
open Go.RowKit
set_option linter.unusedVariables false
set_option linter.unusedSimpArgs false
set_option maxRecDepth 100000
def manS5 : ByteArray := ⟨#[77, 65, 78, 73, 70, 69, 83, 84, 45, 48, 48, 48, 48, 48, 53]⟩
theorem manS5_is : manS5.data.toList = manD 53 := rfl
set_option maxHeartbeats 8000000 in
theorem manifestLays_walk (a0 : Option Addr) (n0 c0 : Nat) (l0 : List (PE × SE)) (x : PE) (sx : SE) (w : World) (h0 : EsAt w a0 n0 c0 l0) (e0 : n0 * 72 ≤ 140737488351232) (hx : EdAt w x sx) (fx : WfE x) (ex : x.dels.length * 16 ≤ 140737488351232) (gx : x.adds.length * 88 ≤ 140737488351232) (hg : Gl w) (h6 : 6 ≤ w.heap.size) :
    Calls Tryz.prog 3 #[.slice a0 n0 c0, .agg #[.int .u64 (x.log : Int), .int .u64 (x.next : Int), .int .u64 (x.last : Int), .slice sx.a x.dels.length sx.c, .slice sx.a' x.adds.length sx.c']] w fun e w' => e = .returned (.bool true) ∧ Below w.heap.size w w' := by
  have hb0 : Below w.heap.size w (w.alloc (.cells (eA x sx) TE)) := (Below.refl _ _).alloc (Nat.le_refl _) _
  have HA := awake_yes (w.alloc (.cells (eA x sx) TE)) (hg.later hb0) (Nat.le_trans h6 hb0.size)
  have HARG : Hid (EsAt w a0 n0 c0 l0 ∧ n0 ≤ 2000000000000 ∧ EdAt w x sx ∧ WfE x ∧ Gl w ∧ 6 ≤ w.heap.size ∧ Below w.heap.size w (w.alloc (.cells (eA x sx) TE)) ∧ Box (w.alloc (.cells (eA x sx) TE)) w.heap.size TE (eA x sx)) := ⟨h0, by omega, hx, fx, hg, h6, hb0, Box.new _ _ _⟩
  clear h0 e0 hx fx ex gx hg h6 hb0
  go_enter Tryz.func3, Tryz.ntmps3
  go_wp2_with fail
  refine HA.mono ?_
  rintro _ wa ⟨rfl, hba⟩
  have HRA : Hid (EsAt wa a0 n0 c0 l0 ∧ n0 ≤ 2000000000000 ∧ EdAt wa x sx ∧ WfE x ∧ Gl wa ∧ 6 ≤ wa.heap.size ∧ Below w.heap.size w wa ∧ Box wa w.heap.size TE (eA x sx)) := by
    have hb := HARG.out.2.2.2.2.2.2.1.trans (hba.mono HARG.out.2.2.2.2.2.2.1.size)
    exact ⟨HARG.out.1.below hb, HARG.out.2.1, HARG.out.2.2.1.below hb, HARG.out.2.2.2.1, HARG.out.2.2.2.2.1.later hb, Nat.le_trans HARG.out.2.2.2.2.2.1 hb.size, hb, HARG.out.2.2.2.2.2.2.2.kept (hba.block _ HARG.out.2.2.2.2.2.2.2.lt)⟩
  have HKX : Hid (∀ W, Below wa.heap.size wa W → Box W w.heap.size TE (eA x sx) ∧ EdAt W x sx) := fun W hW => ⟨HRA.out.2.2.2.2.2.2.2.kept (hW.block _ HRA.out.2.2.2.2.2.2.2.lt), HRA.out.2.2.1.below hW⟩
  clear HA hba HARG
  have HN := fw_new fsOk 1048576 (by decide) HRA.out.2.2.2.2.1 HRA.out.2.2.2.2.2.1
  go_wp2_with fail
  refine HN.mono ?_
  rintro _ w1 ⟨p, R1, rfl, h1⟩
  have HS5 := fw_state fsOk h1 5 7 a0 n0 c0 l0 (HRA.out.1.below h1.base) HRA.out.2.1 (by decide) (by decide)
  have HD5 : Hid (Std 5 (stateP 5 7 (l0.map Prod.fst))) := state_std 5 7 _ (by decide) (by decide)
  generalize stateP 5 7 (l0.map Prod.fst) = s5 at HS5 HD5
  clear HN h1
  go_wp2_with fail
  refine HS5.mono ?_
  rintro _ w2 ⟨t5, rfl, R2, h2, n2', v5⟩
  have HWR := fw_write fsOk h2 s5 t5 (by decide) v5.at v5.wf HD5.out.few (by rw [HD5.out.num]; decide)
  have hnm5 : nameP 3 s5.num = manD 53 := by rw [HD5.out.num]; exact name_5
  obtain ⟨k3, ek, hk3⟩ := write_new HD5.out.chk (by rw [hnm5]; exact fresh_5) (Nat.le_trans HD5.out.len (by decide))
  rw [ek, hnm5] at HWR
  dsimp only at HWR
  have hBase : Base (cr1 (manD 53) s5.bytes) (manD 53) s5.bytes 2 1 := cr1_base s5.bytes mn_5 fresh_5
  have HK3 : Hid (Fine k3 12 ∧ Base (cr1 (manD 53) s5.bytes) (manD 53) s5.bytes 2 1) := ⟨hk3, hBase⟩
  clear HS5 h2 n2' v5 ek hk3 hnm5 hBase
  go_wp2_with fail
  refine HWR.mono ?_
  rintro _ w3 ⟨rfl, R3, h3, n3⟩
  have HRD := fw_read fsOk h3 manS5
  have hrd : (pf (cr1 (manD 53) s5.bytes) k3).read (manD 53) = (s5.bytes, 0) := by
    rw [read_pf HK3.out.1.quiet, HK3.out.2.man]
    rfl
  rw [manS5_is, hrd] at HRD
  dsimp only at HRD
  have hbl5 : s5.bytes.length ≤ 200000 := HD5.out.len
  obtain ⟨nb, hnb⟩ : ∃ nb, s5.bytes.length = nb := ⟨_, rfl⟩
  rw [hnb] at HRD hbl5
  clear HWR h3 n3 hrd
  go_wp2_with fail
  refine HRD.mono ?_
  rintro _ w4 ⟨aw, cw, rfl, R4, h4, n4, bw⟩
  have HAP := fw_append fsOk h4 5 x sx (by have := HK3.out.1.asked; show k3.asked < _; omega) (HKX.out w4 h4.base).2 HRA.out.2.2.2.1 (by decide)
  have HW4 : Hid (BH w4 R4 aw nb cw s5.bytes) := bw
  obtain ⟨x0, x1, x2, x3, x4⟩ := (HKX.out w4 h4.base).1.five
  clear HRD h4 n4 bw
  by_cases hxe : x.err = 0
  · by_cases hlong : 131072 < x.enc.length
    · have hap : appendP 5 x (pf (cr1 (manD 53) s5.bytes) k3) = (pf (cr1 (manD 53) s5.bytes) k3, 90) := by
        unfold appendP
        rw [name_5, read_pf HK3.out.1.quiet, HK3.out.2.man, if_neg (by omega), if_neg (fun h => h rfl), if_pos hlong]
      rw [hap] at HAP
      dsimp only at HAP
      go_wp2_with fail
      refine HAP.mono ?_
      rintro _ w5 ⟨rfl, R5, h5, n5⟩
      have HRD2 := fw_read fsOk h5 manS5
      rw [manS5_is, show (pf (cr1 (manD 53) s5.bytes) k3).read (manD 53) = (s5.bytes, 0) by rw [read_pf HK3.out.1.quiet, HK3.out.2.man]; rfl] at HRD2
      dsimp only at HRD2
      rw [hnb] at HRD2
      have HW5 : Hid (BH w5 R5 aw nb cw s5.bytes) := HW4.out.nx n5
      clear HAP h5 n5 HW4 x0 x1 x2 x3 x4
      go_wp2_with fail
      refine HRD2.mono ?_
      rintro _ w6 ⟨an, cn, rfl, R6, h6, n6, bn⟩
      have HW6 : Hid (BH w6 R6 aw nb cw s5.bytes ∧ BH w6 R6 an nb cn s5.bytes ∧ Below w.heap.size w w6) := ⟨HW5.out.nx n6, bn, HRA.out.2.2.2.2.2.2.1.trans (h6.base.mono HRA.out.2.2.2.2.2.2.1.size)⟩
      obtain ⟨x0, x1, x2, x3, x4⟩ := (HKX.out w6 h6.base).1.five
      have HEN := eenc_any x sx w6 (HKX.out w6 h6.base).2 HRA.out.2.2.2.1
      rw [hxe, PE.lay_yes hxe] at HEN
      clear HRD2 h6 n6 bn HW5
      go_wp2_with fail
      refine HEN.mono ?_
      rintro _ w7 ⟨ae, ce, rfl, ho7, hb7⟩
      have HPU := put_great (nb : Int) ae x.enc.length ce w7 (by omega) hlong
      clear HEN x0 x1 x2 x3 x4
      go_wp2_with fail
      refine HPU.mono ?_
      rintro _ w8 ⟨rfl, hw8⟩
      rw [hw8]
      have hcv1 := conv_of (HW6.out.1.bs.below (Nat.le_refl _) hb7)
      have hcv2 := conv_of (HW6.out.2.1.bs.below (Nat.le_refl _) hb7)
      have HZ : Hid (Below w.heap.size w w7) := HW6.out.2.2.trans (hb7.mono HW6.out.2.2.size)
      clear hb7 hw8 ho7 HPU HW6
      go_wp2
      try go_ret
      exact ⟨ret1 rfl, HZ.out⟩
    · have hle : x.enc.length ≤ 131072 := by omega
      have hps := put_short s5.bytes.length x.enc
      obtain ⟨k5, ea, hk5⟩ := append_next (c := cr1 (manD 53) s5.bytes) (k := k3) (n := 12) (num := 5) (x := x) (B := s5.bytes) (i := 2) (j := 1) (by rw [name_5]; exact HK3.out.2) hxe hle (by rw [cr1_bulk]; have : (manD 53).length = 15 := rfl; omega) HK3.out.1
      rw [cr1_app] at ea
      rw [ea] at HAP
      dsimp only at HAP
      obtain ⟨P, hP⟩ : ∃ P, putP s5.bytes.length true x.enc = P := ⟨_, rfl⟩
      rw [hP] at HAP ea hps
      have hB5 : Base (cr1 (manD 53) (s5.bytes ++ P)) (manD 53) (s5.bytes ++ P) 2 1 := cr1_base _ mn_5 fresh_5
      have HK5 : Hid (Fine k5 15 ∧ Base (cr1 (manD 53) (s5.bytes ++ P)) (manD 53) (s5.bytes ++ P) 2 1) := ⟨hk5, hB5⟩
      clear ea hk5 hB5
      go_wp2_with fail
      refine HAP.mono ?_
      rintro _ w5 ⟨rfl, R5, h5, n5⟩
      have HRD2 := fw_read fsOk h5 manS5
      rw [manS5_is, show (pf (cr1 (manD 53) (s5.bytes ++ P)) k5).read (manD 53) = (s5.bytes ++ P, 0) by rw [read_pf HK5.out.1.quiet, HK5.out.2.man]; rfl] at HRD2
      dsimp only at HRD2
      obtain ⟨nn, hnn⟩ : ∃ nn, (s5.bytes ++ P).length = nn := ⟨_, rfl⟩
      rw [hnn] at HRD2
      have HNL : Hid (nn = nb + P.length) := by unfold Hid; rw [← hnn, List.length_append, hnb]
      clear hnn
      have HW5 : Hid (BH w5 R5 aw nb cw s5.bytes) := HW4.out.nx n5
      clear HAP h5 n5 HW4 x0 x1 x2 x3 x4
      go_wp2_with fail
      refine HRD2.mono ?_
      rintro _ w6 ⟨an, cn, rfl, R6, h6, n6, bn⟩
      have HW6 : Hid (BH w6 R6 aw nb cw s5.bytes ∧ BH w6 R6 an nn cn (s5.bytes ++ P) ∧ Below w.heap.size w w6 ∧ Fw D0 wa p (pf (cr1 (manD 53) (s5.bytes ++ P)) k5) R6 w6) := ⟨HW5.out.nx n6, bn, HRA.out.2.2.2.2.2.2.1.trans (h6.base.mono HRA.out.2.2.2.2.2.2.1.size), h6⟩
      obtain ⟨x0, x1, x2, x3, x4⟩ := (HKX.out w6 h6.base).1.five
      have HEN := eenc_any x sx w6 (HKX.out w6 h6.base).2 HRA.out.2.2.2.1
      rw [hxe, PE.lay_yes hxe] at HEN
      clear HRD2 h6 n6 bn HW5
      go_wp2_with fail
      refine HEN.mono ?_
      rintro _ w7 ⟨ae, ce, rfl, ho7, hb7⟩
      have HPU := put_at nb ae x.enc.length ce x.enc w7 ho7.bs (by omega) hle
      rw [← hnb, hP, hnb] at HPU
      clear HEN x0 x1 x2 x3 x4
      go_wp2_with fail
      refine HPU.mono ?_
      rintro _ w8 ⟨ap, cp, rfl, ho8, hb8⟩
      have hbz : Below w6.heap.size w6 w8 := hb7.trans (hb8.mono hb7.size)
      obtain ⟨R8, h8, n8⟩ := FR.call fsOk HW6.out.2.2.2 hbz
      have hcv1 := conv_of (HW6.out.1.bs.below (Nat.le_refl _) hbz)
      have hcv2 := conv_of (HW6.out.2.1.bs.below (Nat.le_refl _) hbz)
      have hcv3 := conv_of ho8.bs
      have hadd : ∀ W : World, (Op.stringOp .add (strOf s5.bytes) (strOf P)).run Tryz.prog W = .ok (.string (strOf s5.bytes ++ strOf P)) W := fun W => run_string_add_sum W _ _ (by rw [strOf_size, strOf_size]; omega)
      have hsum : strOf s5.bytes ++ strOf P = strOf (s5.bytes ++ P) := by
        apply ByteArray.ext
        simp [strOf]
      rw [hsum] at hadd
      have HZ : Hid (Below w.heap.size w w8 ∧ Fw D0 wa p (pf (cr1 (manD 53) (s5.bytes ++ P)) k5) R8 w8) := ⟨HW6.out.2.2.1.trans (hbz.mono HW6.out.2.2.1.size), h8⟩
      obtain ⟨x0, x1, x2, x3, x4⟩ := (HKX.out w8 h8.base).1.five
      have HA6 := fw_append fsOk h8 6 x sx (by have := HK5.out.1.asked; show k5.asked < _; omega) (HKX.out w8 h8.base).2 HRA.out.2.2.2.1 (by decide)
      have hap6 : appendP 6 x (pf (cr1 (manD 53) (s5.bytes ++ P)) k5) = (pf (cr1 (manD 53) (s5.bytes ++ P)) k5, 42) := by
        unfold appendP
        rw [name_6, read_pf HK5.out.1.quiet, cr1_find _ (by decide) (by decide), if_neg (by omega), if_pos (by show (42 : Nat) ≠ 0; decide)]
      rw [hap6] at HA6
      dsimp only at HA6
      clear hbz hb7 hb8 ho7 ho8 HPU HW6 h8 n8
      go_wp2_with fail
      refine HA6.mono ?_
      rintro _ w9 ⟨rfl, R9, h9, n9⟩
      go_wp2
      try go_ret
      exact ⟨ret1 rfl, HRA.out.2.2.2.2.2.2.1.trans (h9.base.mono HRA.out.2.2.2.2.2.2.1.size)⟩
  · have hap : appendP 5 x (pf (cr1 (manD 53) s5.bytes) k3) = (pf (cr1 (manD 53) s5.bytes) k3, x.err) := by
      unfold appendP
      rw [if_pos hxe]
    rw [hap] at HAP
    dsimp only at HAP
    have hxb : ((x.err : Int) != 0) = true := by simp; omega
    obtain ⟨er, her⟩ : ∃ er, x.err = er := ⟨_, rfl⟩
    rw [her] at HAP hxb
    go_wp2_with fail
    refine HAP.mono ?_
    rintro _ w5 ⟨rfl, R5, h5, n5⟩
    have HRD2 := fw_read fsOk h5 manS5
    rw [manS5_is, show (pf (cr1 (manD 53) s5.bytes) k3).read (manD 53) = (s5.bytes, 0) by rw [read_pf HK3.out.1.quiet, HK3.out.2.man]; rfl] at HRD2
    dsimp only at HRD2
    rw [hnb] at HRD2
    have HW5 : Hid (BH w5 R5 aw nb cw s5.bytes) := HW4.out.nx n5
    clear HAP h5 n5 HW4 x0 x1 x2 x3 x4
    go_wp2_with fail
    refine HRD2.mono ?_
    rintro _ w6 ⟨an, cn, rfl, R6, h6, n6, bn⟩
    have HW6 : Hid (BH w6 R6 aw nb cw s5.bytes ∧ BH w6 R6 an nb cn s5.bytes ∧ Below w.heap.size w w6) := ⟨HW5.out.nx n6, bn, HRA.out.2.2.2.2.2.2.1.trans (h6.base.mono HRA.out.2.2.2.2.2.2.1.size)⟩
    obtain ⟨x0, x1, x2, x3, x4⟩ := (HKX.out w6 h6.base).1.five
    have HEN := eenc_any x sx w6 (HKX.out w6 h6.base).2 HRA.out.2.2.2.1
    rw [her] at HEN
    clear HRD2 h6 n6 bn HW5
    go_wp2_with fail
    refine HEN.mono ?_
    rintro _ w7 ⟨ae, ce, rfl, ho7, hb7⟩
    have hcv1 := conv_of (HW6.out.1.bs.below (Nat.le_refl _) hb7)
    have hcv2 := conv_of (HW6.out.2.1.bs.below (Nat.le_refl _) hb7)
    have HZ : Hid (Below w.heap.size w w7) := HW6.out.2.2.trans (hb7.mono HW6.out.2.2.size)
    clear hb7 ho7 HEN HW6
    go_wp2
    try go_ret
    exact ⟨ret1 rfl, HZ.out⟩
end Go.Proofs.YtmlfbihlbiikeabGreatDoor
