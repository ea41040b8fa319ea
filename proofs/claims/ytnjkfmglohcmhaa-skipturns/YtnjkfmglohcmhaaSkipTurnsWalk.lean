/- SkipTurns: the walk. -/
import Derived.Test.YtnjkfmglohcmhaaS7Turn0
import Derived.Deep.DeepCutAuto
namespace Go.Proofs.Ytnjkfmglohcmhaa
open Go.RowKit
set_option linter.unusedVariables false
theorem done_other {S : PS} {i j : Nat} (h : j ≠ i) : (S.step i).done j = S.done j := by
  unfold PS.done
  rw [PS.step_other h]
set_option maxRecDepth 100000 in
set_option maxHeartbeats 8000000 in
theorem skipTurns_walk (a0 : Option Addr) (len0 cap0 : Nat) (b0 : List PutV) (a1 : Option Addr) (len1 cap1 : Nat) (b1 : List Int) (w : World) (w0 : PsAt w a0 len0 cap0 b0) (w1 : IsAt w a1 len1 cap1 b1) :
    Calls Try.prog 4 #[.slice a0 len0 cap0, .slice a1 len1 cap1] w fun e w' => e = .returned (.bool true) ∧ Below w.heap.size w w' := by
  have HP : Hid (PsAt w a0 len0 cap0 b0) := w0
  have HI : Hid (IsAt w a1 len1 cap1 b1) := w1
  have hmax1 := w1.max
  have hle1 := w1.le
  unfold maxLen at hmax1
  clear w0 w1
  go_enter Try.func4, Try.ntmps4
  go_wp2_with fail
  refine (awake_any _).mono ?_
  rintro _ v1 ⟨rfl, hb1⟩
  have HB1 : Hid (Below w.heap.size w v1) := hb1
  clear hb1
  go_wp2_with fail
  refine (new_at 1000 v1 (by omega)).mono ?_
  rintro _ v2 ⟨p, g, rfl, h1, bb1, f1⟩
  have H1 : Hid (Own7 w v2 p (PS.new 1000) g) := ⟨h1, HB1.out.trans (bb1.mono HB1.out.size), fun k hk => Nat.le_trans HB1.out.size (f1 k hk)⟩
  clear h1 bb1 f1
  go_wp2_with fail
  refine (begun_at H1.out.at' (HP.out.below H1.out.base) (fun hn => L7.off H1.out HP.out hn)).mono ?_
  rintro _ v3 ⟨ka, kc, ha, hc, g2, rfl, h2, c2, f2⟩
  have HFR : Hid (Fresh ((PS.new 1000).begins (b0.take 60))) := (Fresh.begins (b0.take 60) Fresh.new).1
  obtain ⟨S0, hS0⟩ : ∃ S0, S0 = (PS.new 1000).begins (b0.take 60) := ⟨_, rfl⟩
  rw [← hS0] at h2 HFR ⊢
  have H2 : Hid (L7 w v3 p S0 g2 ka kc ha hc) := L7.of H1.out h2 c2 f2
  clear h2 c2 f2 hS0 H1 HB1
  obtain ⟨n0, HN0⟩ : ∃ n0, Hid (n0 = S0.ops.length) := ⟨_, rfl⟩
  rw [← HN0.out]
  have hn0 : n0 ≤ 1000 := by rw [HN0.out]; have := H2.out.own.at'.inv.size; have := H2.out.own.at'.inv.room; omega
  by_cases hz : n0 = 0
  · subst hz
    go_wp2
    go_returns
    exact ⟨rfl, H2.out.own.base⟩
  · have hpos : 0 < n0 := by omega
    have hm1 := fun w' => made_bools n0 hn0 w'
    have hm2 := made_rows
    have HW3 : Hid (T7 w ((v3.alloc (.cells (boolArr (List.replicate n0 false)) 4)).alloc (.cells (wasArr fun _ => .slice none 0 0) 29)) p S0 g2 ka kc ha hc v3.heap.size (v3.heap.size + 1) (List.replicate n0 false) (fun _ => none) (fun _ => 0) S0.lk ∧ (∀ i, i < n0 → (List.replicate n0 false).getD i false = S0.done i)) := by
      have hb1 : Below v3.heap.size v3 (v3.alloc (.cells (boolArr (List.replicate n0 false)) 4)) := (Below.refl _ _).alloc (Nat.le_refl _) _
      have hb2 := hb1.alloc (o := .cells (wasArr fun _ => .slice none 0 0) 29) (by simp)
      have hsz := H2.out.own.base.size
      have hx := Box.new (v3.alloc (.cells (boolArr (List.replicate n0 false)) 4)) 29 (wasArr fun _ => .slice none 0 0)
      rw [show (v3.alloc (.cells (boolArr (List.replicate n0 false)) 4)).heap.size = v3.heap.size + 1 by simp] at hx
      have e : ∀ l, S0.lk l = [] := fun l => by unfold PS.lk; rw [HFR.out.lev l]; rfl
      refine ⟨⟨H2.out.below hb2, (Box.new v3 _ _).alloc _, hx.eq (wasArr_congr fun l _ => by rw [e l]; rfl), fun l _ => by rw [e l]; exact OwnS.nil _ _, hsz, by omega⟩, fun i hi => ?_⟩
      have hd : S0.done i = false := by
        cases hd : S0.done i with
        | false => rfl
        | true => have := HFR.out.none i hd; have := HN0.out; omega
      rw [hd]
      simp [List.getD, hi]
    have hzb : ((n0 : Int) == 0) = false := by simp; omega
    have HDB : Hid (∃ db wb, db = v3.heap.size ∧ wb = v3.heap.size + 1) := ⟨_, _, rfl, rfl⟩
    clear HFR H2
    go_wp2_with fail
    obtain ⟨db, wb, hdb, hwb⟩ := HDB.out
    rw [← hwb, ← hdb] at HW3 ⊢
    clear hdb hwb HDB hm1 hm2
    go_wp2_with fail
    go_loopw [13] (fun x wr => ∃ (k : Nat) (S : PS) (dl : List Bool) (va : Nat → Option Addr) (vc : Nat → Nat), k ≤ len1 ∧ x = .int .i64 (k : Int) ∧ Hid (T7 w wr p S g2 ka kc ha hc db wb dl va vc S.lk ∧ Goes S0 S ∧ dl.length = n0 ∧ ∀ i, i < n0 → dl.getD i false = S.done i)) (fun x _ => len1 - (intOf x).toNat)
    case atStart => exact ⟨0, S0, _, _, _, Nat.zero_le _, rfl, HW3.out.1, Goes.refl _, by simp, HW3.out.2⟩
    case round =>
      obtain ⟨k, S, dl, va, vc, hk, rfl, HR⟩ := hrel
      clear HW3
      go_upto_region 13 with fail
      go_cut [61] (fun t wz => t = .bool (decide (k < len1 ∧ k < 300)) ∧ wz = wr)
      case first =>
        by_cases hc1 : k < len1
        · go_wp2_with fail
          go_meet
          exact ⟨congrArg Value.bool (decide_eq_decide.2 (by omega)), rfl⟩
        · go_wp2_with fail
          go_meet
          exact ⟨congrArg Value.bool (decide_eq_false (by omega)).symm, rfl⟩
      case rest =>
        obtain ⟨rfl, rfl⟩ := hcut
        by_cases hlt : k < len1 ∧ k < 300
        · rw [decide_eq_true hlt]
          obtain ⟨hc1, hc2⟩ := hlt
          have hir := HI.out.below (Nat.le_refl _) HR.out.1.l7.own.base
          obtain ⟨bk, off, hia, hcell⟩ := hir.here (by omega)
          have hci := hcell k hc1
          have hwf := hir.wf k hc1
          have hidx := fun w' => idx_int w' (c := cap1) hia hc1
          generalize b1.getD k 0 = x at hci hwf
          obtain ⟨l0, u0⟩ := hwf
          clear hir hcell hia
          rename World => x9
          go_upto_if 69 with fail
          go_cut [14] (fun s wz => ∃ q : Nat, s = .int .i64 (q : Int) ∧ q ≤ 9223372036854775807 ∧ wz = x9)
          case first =>
            by_cases hq : x < 0
            · obtain ⟨q, e⟩ : ∃ q : Nat, -(x + 1) = (q : Int) := ⟨(-(x + 1)).toNat, by omega⟩
              have HE : Hid (-(x + 1) = (q : Int)) := e
              clear e
              go_wp2_with fail
              go_meet
              exact ⟨q, by rw [HE.out], by have := HE.out; omega, rfl⟩
            · go_wp2_with fail
              go_meet
              exact ⟨x.toNat, by rw [show ((x.toNat : Nat) : Int) = x by omega], by omega, rfl⟩
          case rest =>
            obtain ⟨q, rfl, hq, rfl⟩ := hcut
            clear hci hidx l0 u0
            have hcc : (0 : Int) < (n0 : Int) := by omega
            have hop0 : q % n0 < n0 := Nat.mod_lt q hpos
            go_wp2_with fail
            rw [← Int.natCast_emod]
            generalize q % n0 = op at hop0 ⊢
            have hopS : op < S.ops.length := by have := HR.out.2.1.len; have := HN0.out; omega
            have HST := step_at HR.out.1.l7.own.at' hopS
            have HGS : Hid (Goes S (S.step op)) := goes_step hopS
            have HDN : Hid (S.done op = true → (S.step op).done op = true) := fun hd => by rw [PS.step_done hd]; exact hd
            refine HST.mono ?_
            rintro _ v4 ⟨rfl, h4, c4⟩
            have H4 : Hid (T7 w v4 p (S.step op) g2 ka kc ha hc db wb dl va vc S.lk) := HR.out.1.step h4 c4 HGS.out
            have HG4 : Hid (Goes S0 (S.step op)) := HR.out.2.1.trans HGS.out
            have HDL : Hid (dl.length = n0 ∧ ∀ i, i < n0 → dl.getD i false = S.done i) := HR.out.2.2
            clear h4 c4 HST HR
            obtain ⟨e, HE⟩ : ∃ e, Hid (e = (S.step op).done op) := ⟨_, rfl⟩
            rw [← HE.out]
            have cd := H4.out.dn.cell op
            rw [boolArr_at (by rw [HDL.out.1]; exact hop0), HDL.out.2 op hop0] at cd
            have fd := H4.out.dn.soft op
            go_upto_region 20 with fail
            go_cut [94] (fun t wz => t = .bool false ∧ wz = v4)
            case first =>
              cases hd : S.done op with
              | false =>
                rw [hd] at cd
                clear hd
                go_wp2_with fail
                go_meet
                exact ⟨rfl, rfl⟩
              | true =>
                rw [hd] at cd
                have he : e = true := by rw [HE.out]; exact HDN.out hd
                subst he
                clear hd
                go_wp2_with fail
                go_meet
                exact ⟨rfl, rfl⟩
            case rest =>
              obtain ⟨rfl, rfl⟩ := hcut
              have H5 : Hid (T7 w (wc.setCell ⟨db, op, none⟩ (.bool e)) p (S.step op) g2 ka kc ha hc db wb (dl.set op e) va vc S.lk ∧ (dl.set op e).length = n0 ∧ ∀ i, i < n0 → (dl.set op e).getD i false = (S.step op).done i) := by
                refine ⟨H4.out.setDone op e, by simp; exact HDL.out.1, fun i hi => ?_⟩
                have hl := HDL.out.1
                by_cases ei : i = op
                · subst ei
                  rw [← HE.out]
                  simp [List.getD, show i < dl.length by omega]
                · rw [done_other ei, ← HDL.out.2 i hi]
                  simp [List.getD, Ne.symm ei]
              have HLK := looks_at (n := n0) H5.out.1.l7.own.at' (by have := H5.out.1.l7.keys.st; rw [HG4.out.len, ← HN0.out] at this; exact this) (by have := H5.out.1.l7.hs.is; rw [HG4.out.len, ← HN0.out] at this; exact this) H5.out.1.dn H5.out.2.1 H5.out.2.2 (by rw [HG4.out.len, ← HN0.out])
              have hcst : (0 : Int) ≤ (op : Int) := by omega
              have hcst2 : (op : Int) < (n0 : Int) := by omega
              go_wp2_with fail
              refine HLK.mono ?_
              rintro _ v5 ⟨rfl, b5⟩
              have H6 : Hid (T7 w v5 p (S.step op) g2 ka kc ha hc db wb (dl.set op e) va vc (mixL S op 0) ∧ (dl.set op e).length = n0 ∧ ∀ i, i < n0 → (dl.set op e).getD i false = (S.step op).done i) := ⟨(H5.out.1.below b5).congr fun l _ => by unfold mixL; rw [if_neg (by omega)], H5.out.2⟩
              clear b5 HLK H5 H4 cd fd HDN
              generalize dl.set op e = dl2 at H6
              rename World => x8
              go_wp2_with fail
              go_loopw [19, 20] (fun x y wr => ∃ (n : Nat) (va : Nat → Option Addr) (vc : Nat → Nat), n ≤ 8 ∧ x = .int .i64 (cm S op n : Int) ∧ y = .int .i64 (n : Int) ∧ Hid (T7 w wr p (S.step op) g2 ka kc ha hc db wb dl2 va vc (mixL S op n))) (fun _ y _ => 8 - (intOf y).toNat)
              case atStart => exact ⟨0, va, vc, by omega, by rw [cm_zero]; rfl, rfl, H6.out.1⟩
              case round =>
                obtain ⟨n, va2, vc2, hn, rfl, rfl, HR⟩ := hrel
                have HH6 : Hid (dl2.length = n0 ∧ ∀ i, i < n0 → dl2.getD i false = (S.step op).done i) := H6.out.2
                clear H6
                by_cases hn8 : n < 8
                · have HKY := keys_at HR.out.l7.own.at' hn8
                  have hl1 := HR.out.l7.own.at'.inv.levLen hn8
                  have hcm := cm_le S op n
                  obtain ⟨m1, HM1⟩ : ∃ m1, Hid (m1 = ((S.step op).lk n).length) := ⟨_, rfl⟩
                  obtain ⟨m0, HM0⟩ : ∃ m0, Hid (m0 = (S.lk n).length) := ⟨_, rfl⟩
                  obtain ⟨c0, HC0⟩ : ∃ c0, Hid (c0 = cm S op n) := ⟨_, rfl⟩
                  rw [← PS.lk_len, ← HM1.out] at HKY hl1
                  rw [← HC0.out] at hcm ⊢
                  have HSUB : Hid (∀ x ∈ S.lk n, x ∈ (S.step op).lk n) := PS.lk_grows S op n
                  have hmix : mixL S op n n = S.lk n := by unfold mixL; rw [if_neg (by omega)]
                  go_wp2_with fail
                  refine HKY.mono ?_
                  rintro _ v6 ⟨a6, c6, rfl, o6, b6⟩
                  have H7 : Hid (T7 w v6 p (S.step op) g2 ka kc ha hc db wb dl2 va2 vc2 (mixL S op n) ∧ OwnS v6 w.heap.size a6 m1 c6 ((S.step op).lk n)) := ⟨HR.out.below b6, o6.less HR.out.l7.own.base.size⟩
                  clear o6 b6 HKY
                  have cw := H7.out.1.wz.cell n
                  rw [wasArr_at hn8, hmix, ← HM0.out] at cw
                  have fw := H7.out.1.wz.soft n
                  have HRW : Hid (StAt v6 (va2 n) m0 (vc2 n) (S.lk n)) := by
                    have := (H7.out.1.rows n hn8).st
                    rw [hmix, ← HM0.out] at this
                    exact this
                  have hx1 : (0 : Int) ≤ (n : Int) := by omega
                  have hx2 : (n : Int) < 8 := by omega
                  have HEND : Hid (T7 w (v6.setCell ⟨wb, n, none⟩ (.slice a6 m1 c6)) p (S.step op) g2 ka kc ha hc db wb dl2 (updA va2 n a6) (upd vc2 n c6) (mixL S op (n + 1))) := by
                    have ho := H7.out.2
                    have := H7.out.1.setWas hn8 (a := a6) (c := c6) (l := (S.step op).lk n) (by rw [← HM1.out]; exact ho)
                    rw [← HM1.out] at this
                    refine this.congr fun l hl => ?_
                    unfold updL mixL
                    by_cases e1 : l = n
                    · rw [if_pos e1, if_pos (by omega), e1]
                    · rw [if_neg e1]
                      by_cases e2 : l < n
                      · rw [if_pos e2, if_pos (by omega)]
                      · rw [if_neg e2, if_neg (by omega)]
                  have HWI := within_at HRW.out H7.out.2.st HSUB.out
                  have hm0 : m0 ≤ m1 := by
                    by_cases hlaid : S.laid op ∧ n = (S.op op).level
                    · have := (cm_came hlaid).2.2.1; rw [← HM1.out, ← HM0.out] at this; omega
                    · have := (cm_stay hlaid).2; rw [← HM1.out, ← HM0.out] at this; omega
                  by_cases hlaid : S.laid op ∧ n = (S.op op).level
                  · obtain ⟨q1, q2, q3, q4⟩ := cm_came hlaid
                    rw [← HM1.out, ← HM0.out] at q3
                    rw [← HC0.out] at q2
                    have HQ1 : Hid (cm S op (n + 1) = 1) := q1
                    have hgt1 : (m0 : Int) < (m1 : Int) := by omega
                    have HE3 : Hid (m1 = m0 + 1) := q3
                    have hnk : S.ops.length = n0 := by have := HG4.out.len; rw [PS.step_len] at this; rw [this, ← HN0.out]
                    have hkst : StAt v6 ka n0 kc (S.step op).keys := by have := H7.out.1.l7.keys.st; rw [HG4.out.len, ← HN0.out] at this; exact this
                    obtain ⟨kb, koff, hka, hkc⟩ := hkst.here (by omega)
                    have ck := hkc op hop0
                    have hkle := hkst.le
                    have hkmax := hkst.max
                    unfold maxLen at hkmax
                    have hidx := fun w' => idx_str w' (c := kc) hka hop0
                    have ek : (S.step op).keys.getD op ⟨#[]⟩ = S.key op := by rw [← PS.key_of_keys (by rw [PS.step_len, hnk]; exact hop0), PS.step_key]
                    rw [ek] at ck
                    have HHAS := has_at H7.out.2.st (S.key op)
                    rw [hasB_true.2 q4] at HHAS
                    generalize S.key op = ko at ck HHAS
                    clear hkc hka hkst ek q1 q3 q4 hlaid hnk
                    go_wp2_with fail
                    refine HWI.mono ?_
                    rintro _ _ ⟨rfl, hw⟩
                    obtain rfl := hw.symm
                    clear hw HWI
                    go_wp2_with fail
                    refine HHAS.mono ?_
                    rintro _ _ ⟨rfl, hw⟩
                    obtain rfl := hw.symm
                    clear hw HHAS
                    go_wp2
                    first
                      | exact ⟨⟨n + 1, updA va2 n a6, upd vc2 n c6, by omega, by rw [HQ1.out]; exact congrArg (Value.int .i64) (by have := HE3.out; omega), by go_num, HEND⟩, by simp only [intOf]; omega⟩
                      | (go_roundw
                         case rel => exact ⟨n + 1, updA va2 n a6, upd vc2 n c6, by omega, by rw [HQ1.out]; exact congrArg (Value.int .i64) (by have := HE3.out; omega), by go_num, HEND⟩
                         case measure => simp only [intOf]; omega)
                  · obtain ⟨q1, q2⟩ := cm_stay hlaid
                    rw [← HM1.out, ← HM0.out] at q2
                    rw [← HC0.out] at q1
                    have HQ1 : Hid (cm S op (n + 1) = c0) := q1
                    have HE3 : Hid (m1 = m0) := q2
                    have hgt1 : ¬ (m0 : Int) < (m1 : Int) := by omega
                    clear q1 q2 hlaid
                    go_wp2_with fail
                    refine HWI.mono ?_
                    rintro _ _ ⟨rfl, hw⟩
                    obtain rfl := hw.symm
                    clear hw HWI
                    go_wp2
                    first
                      | exact ⟨⟨n + 1, updA va2 n a6, upd vc2 n c6, by omega, by rw [HQ1.out]; exact congrArg (Value.int .i64) (by have := HE3.out; omega), by go_num, HEND⟩, by simp only [intOf]; omega⟩
                      | (go_roundw
                         case rel => exact ⟨n + 1, updA va2 n a6, upd vc2 n c6, by omega, by rw [HQ1.out]; exact congrArg (Value.int .i64) (by have := HE3.out; omega), by go_num, HEND⟩
                         case measure => simp only [intOf]; omega)
                · obtain rfl : n = 8 := by omega
                  have hcm := cm_le S op 8
                  have HXX : Hid (T7 w wr p (S.step op) g2 ka kc ha hc db wb dl2 va2 vc2 (S.step op).lk ∧ Goes S0 (S.step op) ∧ dl2.length = n0 ∧ ∀ i, i < n0 → dl2.getD i false = (S.step op).done i) := ⟨HR.out.congr fun l hl => by unfold mixL; rw [if_pos hl], HG4.out, HH6.out⟩
                  generalize cm S op 8 = c8 at hcm ⊢
                  go_wp2
                  first
                    | exact ⟨⟨k + 1, S.step op, dl2, va2, vc2, by omega, by go_num, HXX⟩, by simp only [intOf]; omega⟩
                    | (go_roundw
                       case rel => exact ⟨k + 1, S.step op, dl2, va2, vc2, by omega, by go_num, HXX⟩
                       case measure => simp only [intOf]; omega)
        · rw [decide_eq_false hlt]
          go_wp2
          go_returns
          exact ⟨rfl, HR.out.1.l7.own.base⟩
end Go.Proofs.Ytnjkfmglohcmhaa
