/- SkipSeeks: the walk. -/
import Derived.Test.YtnjkfmglohcmhaaS7L
import Derived.Test.YtnjkfmglohcmhaaS7SeekB
import Derived.Deep.DeepCutAuto
namespace Go.Proofs.Ytnjkfmglohcmhaa
open Go.RowKit
set_option linter.unusedVariables false
theorem cntK_lt {S : PS} {key : ByteArray} {t : Nat} (h : t < cntK S key) : t < (S.lev 0).length ∧ kl (keyAt S t) key = true := by
  obtain ⟨h1, h2⟩ := cnt_lt _ _ t h
  exact ⟨h1, by rw [keyAt_in h1]; exact h2⟩
theorem cntK_at {S : PS} {key : ByteArray} (h : cntK S key < (S.lev 0).length) : kl (keyAt S (cntK S key)) key = false := by
  rw [keyAt_in h]
  exact cnt_at _ _ h
set_option maxRecDepth 100000 in
set_option maxHeartbeats 4000000 in
theorem skipSeeks_walk (a0 : Option Addr) (len0 cap0 : Nat) (b0 : List PutV) (a1 : Option Addr) (len1 cap1 : Nat) (b1 : List Int) (s2 : ByteArray) (w : World) (w0 : PsAt w a0 len0 cap0 b0) (w1 : IsAt w a1 len1 cap1 b1) (e2 : s2.size ≤ 140737488351232) :
    Calls Try.prog 6 #[.slice a0 len0 cap0, .slice a1 len1 cap1, .string s2] w fun e w' => e = .returned (.bool true) ∧ Below w.heap.size w w' := by
  have HP : Hid (PsAt w a0 len0 cap0 b0) := w0
  have HI : Hid (IsAt w a1 len1 cap1 b1) := w1
  have hmax1 := w1.max
  have hle1 := w1.le
  unfold maxLen at hmax1
  clear w0 w1 e2
  go_enter Try.func6, Try.ntmps6
  go_wp2_with fail
  refine (awake_any _).mono ?_
  rintro _ v1 ⟨rfl, hb1⟩
  have HB1 : Hid (Below w.heap.size w v1) := hb1
  clear hb1
  go_wp2_with fail
  refine (new_at 1000 v1 (by omega)).mono ?_
  rintro _ v2 ⟨p, g, rfl, h1, bb1, f1⟩
  have H1 : Hid (Own7 w v2 p (PS.new 1000) g) := ⟨h1, HB1.out.trans (bb1.mono HB1.out.size), fun k hk => Nat.le_trans HB1.out.size (f1 k hk)⟩
  clear h1 bb1 f1
  go_wp2_with fail
  refine (begun_at H1.out.at' (HP.out.below H1.out.base) (fun hn => L7.off H1.out HP.out hn)).mono ?_
  rintro _ v3 ⟨ka, kc, ha, hc, g2, rfl, h2, c2, f2⟩
  obtain ⟨S0, hS0⟩ : ∃ S0, S0 = (PS.new 1000).begins (b0.take 60) := ⟨_, rfl⟩
  rw [← hS0] at h2 ⊢
  have H2 : Hid (L7 w v3 p S0 g2 ka kc ha hc) := L7.of H1.out h2 c2 f2
  clear h2 c2 f2 hS0 H1 HB1
  obtain ⟨n0, HN0⟩ : ∃ n0, Hid (n0 = S0.ops.length) := ⟨_, rfl⟩
  rw [← HN0.out]
  have hn0 : n0 ≤ 1000 := by rw [HN0.out]; have := H2.out.own.at'.inv.size; have := H2.out.own.at'.inv.room; omega
  go_wp2_with fail
  go_loopw [13] (fun x wr => ∃ (k : Nat) (S : PS), k ≤ len1 ∧ x = .int .i64 (k : Int) ∧ Hid (L7 w wr p S g2 ka kc ha hc ∧ Goes S0 S)) (fun x _ => len1 - (intOf x).toNat)
  case atStart => exact ⟨0, S0, Nat.zero_le _, rfl, H2.out, Goes.refl _⟩
  case round =>
    obtain ⟨k, S, hk, rfl, HR⟩ := hrel
    by_cases hc1 : k < len1
    · by_cases hc2 : k < 200
      · by_cases hc3 : 0 < n0
        · have hir := HI.out.below (Nat.le_refl _) HR.out.1.own.base
          obtain ⟨bk, off, hia, hcell⟩ := hir.here (by omega)
          have hci := hcell k hc1
          have hwf := hir.wf k hc1
          rw [hia]
          generalize b1.getD k 0 = x at hci hwf
          obtain ⟨l0, u0⟩ := hwf
          clear hir hcell hia
          have hcc : (0 : Int) < (n0 : Int) := by omega
          go_upto_if 67 with fail
          go_cut [14] (fun s wc => ∃ q : Nat, s = .int .i64 (q : Int) ∧ q ≤ 9223372036854775807 ∧ wc = wr)
          case first =>
            by_cases hq : x < 0
            · obtain ⟨q, e⟩ : ∃ q : Nat, -(x + 1) = (q : Int) := ⟨(-(x + 1)).toNat, by omega⟩
              have HE : Hid (-(x + 1) = (q : Int)) := e
              clear e
              go_wp2_with fail
              go_meet
              exact ⟨q, by rw [HE.out], by have := HE.out; omega, rfl⟩
            · go_wp2_with fail
              go_meet
              exact ⟨x.toNat, by rw [show ((x.toNat : Nat) : Int) = x by omega], by omega, rfl⟩
          case rest =>
            obtain ⟨q, rfl, hq, rfl⟩ := hcut
            have HST : Calls Try.prog 12 #[at_ p, .int .i64 ((q : Int) % (n0 : Int))] wc fun e w' => e = .returned (.tuple #[.bool ((S.step (q % n0)).done (q % n0)), .int .i64 0]) ∧ SkAt w' p (S.step (q % n0)) g2 ∧ Chg (Foot p g2) wc w' := by
              rw [← Int.natCast_emod]
              exact step_at HR.out.1.own.at' (by have := HR.out.2.len; have := HN0.out; have := Nat.mod_lt q hc3; omega)
            go_wp2_with fail
            refine HST.mono ?_
            rintro _ v4 ⟨rfl, h4, c4⟩
            obtain ⟨S1, hS1⟩ : ∃ S1, S1 = S.step (q % n0) := ⟨_, rfl⟩
            have hgs : Goes S S1 := by rw [hS1]; exact goes_step (by have := HR.out.2.len; have := HN0.out; have := Nat.mod_lt q hc3; omega)
            rw [← hS1] at h4
            have H4 : Hid (L7 w v4 p S1 g2 ka kc ha hc ∧ Goes S0 S1) := ⟨HR.out.1.step h4 c4 hgs, HR.out.2.trans hgs⟩
            clear h4 c4 hgs hS1 HR hci HST
            go_wp2_with fail
            refine (keys_at H4.out.1.own.at' (l := 0) (by omega)).mono ?_
            rintro _ v5 ⟨ak, ck, rfl, ok5, bb5⟩
            obtain ⟨m, HM⟩ : ∃ m, Hid (m = (S1.lev 0).length) := ⟨_, rfl⟩
            obtain ⟨c, HC⟩ : ∃ c, Hid (c = cntK S1 s2) := ⟨_, rfl⟩
            rw [← HM.out] at ok5 ⊢
            have hm1 : m ≤ 1000 := by rw [HM.out]; exact H4.out.1.own.at'.inv.levLen (by omega)
            have hcm : c ≤ m := by rw [HM.out, HC.out]; exact cnt_le _ _
            have H5 : Hid (L7 w v5 p S1 g2 ka kc ha hc ∧ Goes S0 S1 ∧ OwnS v5 v4.heap.size ak m ck (S1.lk 0)) := ⟨H4.out.1.below bb5, H4.out.2, ok5⟩
            have hck : m ≤ ck ∧ ck ≤ 9223372036854775807 := by have := (row_addr ok5.row); unfold maxLen at this; omega
            obtain ⟨hck1, hck2⟩ := hck
            have HCL : Hid (∀ v, Below v5.heap.size v5 v → 0 < m → ∃ b, ak = some ⟨b, 0, none⟩ ∧ ∀ t, t < m → v.cell? ⟨b, t, none⟩ = some (.string (keyAt S1 t))) := fun v hv hm => by
              obtain ⟨b, hb⟩ := (row_addr ok5.row).2.2.2 hm
              refine ⟨b, hb, fun t ht => ?_⟩
              have hr := ok5.below hv
              obtain ⟨b', o', e1, e2⟩ := hr.st.here hm
              rw [hb] at e1
              simp only [Option.some.injEq, Addr.mk.injEq, and_true] at e1
              obtain ⟨rfl, rfl⟩ := e1
              have := e2 t ht
              rw [Nat.zero_add] at this
              exact this
            clear ok5 bb5 H4
            by_cases hmp : 0 < m
            · obtain ⟨kb, hka, hcell⟩ := HCL.out v5 (Below.refl _ _) hmp
              have HKA : Hid (ak = some ⟨kb, 0, none⟩) := hka
              rw [hka]
              have HCE : Hid (∀ t, t < m → v5.cell? ⟨kb, t, none⟩ = some (.string (keyAt S1 t))) := hcell
              clear hka hcell
              go_wp2_with fail
              go_loop [16] (fun y => ∃ t : Nat, t ≤ c ∧ y = .int .i64 (t : Int)) (fun y => m - (intOf y).toNat)
              case atStart => exact ⟨0, Nat.zero_le _, rfl⟩
              case round =>
                obtain ⟨t, htc, rfl⟩ := hrel
                by_cases ht : t < c
                · have hct := HCE.out t (by omega)
                  have hkl : Op.bytesLess (keyAt S1 t).toList s2.toList = true := (cntK_lt (S := S1) (key := s2) (t := t) (by rw [← HC.out]; exact ht)).2
                  have htm : t < m := by omega
                  generalize keyAt S1 t = kt at hct hkl
                  go_wp2
                  go_round
                  case rel => exact ⟨t + 1, by omega, by go_num⟩
                  case measure => simp only [intOf]; omega
                · obtain rfl : t = c := by omega
                  by_cases htm : t < m
                  · have hct := HCE.out t htm
                    have hkl : Op.bytesLess (keyAt S1 t).toList s2.toList = false := by
                      have e := HC.out
                      have := cntK_at (S := S1) (key := s2) (by rw [← e, ← HM.out]; exact htm)
                      rw [← e] at this
                      exact this
                    by_cases ht0 : 0 < t
                    · have HSK := seek_at H5.out.1.own.at' s2
                      rw [← HC.out, ← HM.out, show decide (t < m) = true by simp; omega] at HSK
                      go_wp2_with fail
                      refine HSK.mono ?_
                      rintro _ v6 ⟨rfl, b6⟩
                      have H6 : Hid (L7 w v6 p S1 g2 ka kc ha hc ∧ Below v5.heap.size v5 v6) := ⟨H5.out.1.below b6, b6⟩
                      clear b6 HSK
                      clear hct hkl
                      have HBF := before_at H6.out.1.own.at' s2
                      rw [← HC.out, show decide (0 < t) = true by simp; omega] at HBF
                      rw [show keyBefore S1 t = keyAt S1 (t - 1) by unfold keyBefore; rw [if_neg (by omega)]] at HBF
                      go_wp2_with fail
                      refine HBF.mono ?_
                      rintro _ v7 ⟨rfl, b7⟩
                      have H7 : Hid (L7 w v7 p S1 g2 ka kc ha hc ∧ Below v5.heap.size v5 v7) := ⟨H6.out.1.below b7, H6.out.2.trans (b7.mono H6.out.2.size)⟩
                      clear b7 HBF H6
                      have HLS := last_at H7.out.1.own.at'
                      rw [← HM.out, show decide (0 < m) = true by simp; omega] at HLS
                      rw [show keyBefore S1 m = keyAt S1 (m - 1) by unfold keyBefore; rw [if_neg (by omega)]] at HLS
                      go_wp2_with fail
                      refine HLS.mono ?_
                      rintro _ v8 ⟨rfl, b8⟩
                      have H8 : Hid (L7 w v8 p S1 g2 ka kc ha hc ∧ Below v5.heap.size v5 v8) := ⟨H7.out.1.below b8, H7.out.2.trans (b8.mono H7.out.2.size)⟩
                      clear b8 HLS H7
                      have hq0 : ((⟨#[]⟩ : ByteArray).toList == (⟨#[]⟩ : ByteArray).toList) = true := by simp
                      obtain ⟨kb2, hka2, hcell2⟩ := HCL.out v8 H8.out.2 (by omega)
                      rw [HKA.out] at hka2
                      simp only [Option.some.injEq, Addr.mk.injEq, and_true] at hka2
                      obtain rfl := hka2
                      have cX := hcell2 t htm
                      have qX : ((keyAt S1 t).toList == (keyAt S1 t).toList) = true := str_eq.2 rfl
                      generalize keyAt S1 t = xX at cX qX ⊢
                      obtain ⟨tp, rfl⟩ : ∃ tp : Nat, t = tp + 1 := ⟨t - 1, by omega⟩
                      have cY := hcell2 tp (by omega)
                      have qY : ((keyAt S1 tp).toList == (keyAt S1 tp).toList) = true := str_eq.2 rfl
                      rw [show tp + 1 - 1 = tp by omega]
                      generalize keyAt S1 tp = xY at cY qY ⊢
                      obtain ⟨mp, rfl⟩ : ∃ mp : Nat, m = mp + 1 := ⟨m - 1, by omega⟩
                      have cZ := hcell2 mp (by omega)
                      rw [show mp + 1 - 1 = mp by omega]
                      have qZ : ((keyAt S1 mp).toList == (keyAt S1 mp).toList) = true := str_eq.2 rfl
                      generalize keyAt S1 mp = xZ at cZ qZ ⊢
                      clear hcell2
                      go_wp2
                      exact ⟨⟨k + 1, S1, by omega, by go_num, H8.out.1, H5.out.2.1⟩, by simp only [intOf]; omega⟩
                    · have HSK := seek_at H5.out.1.own.at' s2
                      rw [← HC.out, ← HM.out, show decide (t < m) = true by simp; omega] at HSK
                      go_wp2_with fail
                      refine HSK.mono ?_
                      rintro _ v6 ⟨rfl, b6⟩
                      have H6 : Hid (L7 w v6 p S1 g2 ka kc ha hc ∧ Below v5.heap.size v5 v6) := ⟨H5.out.1.below b6, b6⟩
                      clear b6 HSK
                      clear hct hkl
                      have HBF := before_at H6.out.1.own.at' s2
                      rw [← HC.out, show decide (0 < t) = false by simp; omega] at HBF
                      rw [show keyBefore S1 t = ⟨#[]⟩ by unfold keyBefore; rw [if_pos (by omega)]] at HBF
                      go_wp2_with fail
                      refine HBF.mono ?_
                      rintro _ v7 ⟨rfl, b7⟩
                      have H7 : Hid (L7 w v7 p S1 g2 ka kc ha hc ∧ Below v5.heap.size v5 v7) := ⟨H6.out.1.below b7, H6.out.2.trans (b7.mono H6.out.2.size)⟩
                      clear b7 HBF H6
                      have HLS := last_at H7.out.1.own.at'
                      rw [← HM.out, show decide (0 < m) = true by simp; omega] at HLS
                      rw [show keyBefore S1 m = keyAt S1 (m - 1) by unfold keyBefore; rw [if_neg (by omega)]] at HLS
                      go_wp2_with fail
                      refine HLS.mono ?_
                      rintro _ v8 ⟨rfl, b8⟩
                      have H8 : Hid (L7 w v8 p S1 g2 ka kc ha hc ∧ Below v5.heap.size v5 v8) := ⟨H7.out.1.below b8, H7.out.2.trans (b8.mono H7.out.2.size)⟩
                      clear b8 HLS H7
                      have hq0 : ((⟨#[]⟩ : ByteArray).toList == (⟨#[]⟩ : ByteArray).toList) = true := by simp
                      obtain ⟨kb2, hka2, hcell2⟩ := HCL.out v8 H8.out.2 (by omega)
                      rw [HKA.out] at hka2
                      simp only [Option.some.injEq, Addr.mk.injEq, and_true] at hka2
                      obtain rfl := hka2
                      have cX := hcell2 t htm
                      have qX : ((keyAt S1 t).toList == (keyAt S1 t).toList) = true := str_eq.2 rfl
                      generalize keyAt S1 t = xX at cX qX ⊢
                      obtain ⟨mp, rfl⟩ : ∃ mp : Nat, m = mp + 1 := ⟨m - 1, by omega⟩
                      have cZ := hcell2 mp (by omega)
                      rw [show mp + 1 - 1 = mp by omega]
                      have qZ : ((keyAt S1 mp).toList == (keyAt S1 mp).toList) = true := str_eq.2 rfl
                      generalize keyAt S1 mp = xZ at cZ qZ ⊢
                      clear hcell2
                      go_wp2
                      exact ⟨⟨k + 1, S1, by omega, by go_num, H8.out.1, H5.out.2.1⟩, by simp only [intOf]; omega⟩
                  · have HSK := seek_at H5.out.1.own.at' s2
                    rw [← HC.out, ← HM.out, show decide (t < m) = false by simp; omega] at HSK
                    rw [keyAt_out (S := S1) (c := t) (by rw [← HM.out]; omega)] at HSK
                    go_wp2_with fail
                    refine HSK.mono ?_
                    rintro _ v6 ⟨rfl, b6⟩
                    have H6 : Hid (L7 w v6 p S1 g2 ka kc ha hc ∧ Below v5.heap.size v5 v6) := ⟨H5.out.1.below b6, b6⟩
                    clear b6 HSK
                    have HBF := before_at H6.out.1.own.at' s2
                    rw [← HC.out, show decide (0 < t) = true by simp; omega] at HBF
                    rw [show keyBefore S1 t = keyAt S1 (t - 1) by unfold keyBefore; rw [if_neg (by omega)]] at HBF
                    go_wp2_with fail
                    refine HBF.mono ?_
                    rintro _ v7 ⟨rfl, b7⟩
                    have H7 : Hid (L7 w v7 p S1 g2 ka kc ha hc ∧ Below v5.heap.size v5 v7) := ⟨H6.out.1.below b7, H6.out.2.trans (b7.mono H6.out.2.size)⟩
                    clear b7 HBF H6
                    have HLS := last_at H7.out.1.own.at'
                    rw [← HM.out, show decide (0 < m) = true by simp; omega] at HLS
                    rw [show keyBefore S1 m = keyAt S1 (m - 1) by unfold keyBefore; rw [if_neg (by omega)]] at HLS
                    go_wp2_with fail
                    refine HLS.mono ?_
                    rintro _ v8 ⟨rfl, b8⟩
                    have H8 : Hid (L7 w v8 p S1 g2 ka kc ha hc ∧ Below v5.heap.size v5 v8) := ⟨H7.out.1.below b8, H7.out.2.trans (b8.mono H7.out.2.size)⟩
                    clear b8 HLS H7
                    have hq0 : ((⟨#[]⟩ : ByteArray).toList == (⟨#[]⟩ : ByteArray).toList) = true := by simp
                    obtain ⟨kb2, hka2, hcell2⟩ := HCL.out v8 H8.out.2 (by omega)
                    rw [HKA.out] at hka2
                    simp only [Option.some.injEq, Addr.mk.injEq, and_true] at hka2
                    obtain rfl := hka2
                    obtain rfl : t = m := by omega
                    obtain ⟨tp, rfl⟩ : ∃ tp : Nat, t = tp + 1 := ⟨t - 1, by omega⟩
                    have cY := hcell2 tp (by omega)
                    have qY : ((keyAt S1 tp).toList == (keyAt S1 tp).toList) = true := str_eq.2 rfl
                    rw [show tp + 1 - 1 = tp by omega]
                    generalize keyAt S1 tp = xY at cY qY ⊢
                    clear hcell2
                    go_wp2
                    exact ⟨⟨k + 1, S1, by omega, by go_num, H8.out.1, H5.out.2.1⟩, by simp only [intOf]; omega⟩
            · have hm0 : m = 0 := by omega
              have hc0 : c = 0 := by omega
              have HSK := seek_at H5.out.1.own.at' s2
              rw [← HC.out, ← HM.out, show decide (c < m) = false by simp; omega] at HSK
              rw [keyAt_out (S := S1) (c := c) (by rw [← HM.out]; omega)] at HSK
              go_wp2_with fail
              go_loop [16] (fun y => y = .int .i64 0) (fun _ => 0)
              case atStart => exact rfl
              case round =>
                obtain rfl := hrel
                go_wp2_with fail
                refine HSK.mono ?_
                rintro _ v6 ⟨rfl, b6⟩
                have H6 : Hid (L7 w v6 p S1 g2 ka kc ha hc ∧ Below v5.heap.size v5 v6) := ⟨H5.out.1.below b6, b6⟩
                clear b6 HSK
                have HBF := before_at H6.out.1.own.at' s2
                rw [← HC.out, show decide (0 < c) = false by simp; omega] at HBF
                rw [show keyBefore S1 c = ⟨#[]⟩ by unfold keyBefore; rw [if_pos (by omega)]] at HBF
                go_wp2_with fail
                refine HBF.mono ?_
                rintro _ v7 ⟨rfl, b7⟩
                have H7 : Hid (L7 w v7 p S1 g2 ka kc ha hc ∧ Below v5.heap.size v5 v7) := ⟨H6.out.1.below b7, H6.out.2.trans (b7.mono H6.out.2.size)⟩
                clear b7 HBF H6
                have HLS := last_at H7.out.1.own.at'
                rw [← HM.out, show decide (0 < m) = false by simp; omega] at HLS
                rw [show keyBefore S1 m = ⟨#[]⟩ by unfold keyBefore; rw [if_pos (by omega)]] at HLS
                go_wp2_with fail
                refine HLS.mono ?_
                rintro _ v8 ⟨rfl, b8⟩
                have H8 : Hid (L7 w v8 p S1 g2 ka kc ha hc ∧ Below v5.heap.size v5 v8) := ⟨H7.out.1.below b8, H7.out.2.trans (b8.mono H7.out.2.size)⟩
                clear b8 HLS H7
                have hq0 : ((⟨#[]⟩ : ByteArray).toList == (⟨#[]⟩ : ByteArray).toList) = true := by simp
                go_wp2
                exact ⟨⟨k + 1, S1, by omega, by go_num, H8.out.1, H5.out.2.1⟩, by simp only [intOf]; omega⟩
        · go_wp2
          go_returns
          exact ⟨rfl, HR.out.1.own.base⟩
      · go_wp2
        go_returns
        exact ⟨rfl, HR.out.1.own.base⟩
    · go_wp2
      go_returns
      exact ⟨rfl, HR.out.1.own.base⟩
end Go.Proofs.Ytnjkfmglohcmhaa
