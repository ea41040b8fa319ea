/- SkipSolo: the walk. -/
import Derived.Test.YtnjkfmglohcmhaaS7D
import Derived.Test.YtnjkfmglohcmhaaS7Help3
import Derived.Deep.DeepCutAuto
namespace Go.Proofs.Ytnjkfmglohcmhaa
open Go.RowKit
set_option linter.unusedVariables false
set_option maxRecDepth 100000 in
set_option maxHeartbeats 8000000 in
theorem skipSolo_walk (a0 : Option Addr) (len0 cap0 : Nat) (b0 : List PutV) (a1 : Option Addr) (len1 cap1 : Nat) (b1 : List Int) (w : World) (w0 : PsAt w a0 len0 cap0 b0) (w1 : IsAt w a1 len1 cap1 b1) :
    Calls Try.prog 5 #[.slice a0 len0 cap0, .slice a1 len1 cap1] w fun e w' => e = .returned (.bool true) ∧ Below w.heap.size w w' := by
  have HP : Hid (PsAt w a0 len0 cap0 b0) := w0
  have HI : Hid (IsAt w a1 len1 cap1 b1) := w1
  have hmax1 := w1.max
  have hle1 := w1.le
  unfold maxLen at hmax1
  clear w0 w1
  go_enter Try.func5, Try.ntmps5
  go_wp2_with fail
  refine (awake_any _).mono ?_
  rintro _ v1 ⟨rfl, hb1⟩
  have HB1 : Hid (Below w.heap.size w v1) := hb1
  clear hb1
  go_wp2_with fail
  refine (new_at 1000 v1 (by omega)).mono ?_
  rintro _ v2 ⟨p, g, rfl, h1, bb1, f1⟩
  have H1 : Hid (Own7 w v2 p (PS.new 1000) g) := ⟨h1, HB1.out.trans (bb1.mono HB1.out.size), fun k hk => Nat.le_trans HB1.out.size (f1 k hk)⟩
  clear h1 bb1 f1
  go_wp2_with fail
  refine (new_at 1000 v2 (by omega)).mono ?_
  rintro _ v3 ⟨p', g', rfl, h1, bb1, f1⟩
  have H2 : Hid (Own7 w v3 p (PS.new 1000) g ∧ Own7 w v3 p' (PS.new 1000) g' ∧ ∀ k, Foot p g k → ¬ Foot p' g' k) := ⟨H1.out.below bb1, ⟨h1, H1.out.base.trans (bb1.mono H1.out.base.size), fun k hk => Nat.le_trans H1.out.base.size (f1 k hk)⟩, fun k hk hk' => by
    have := H1.out.at'.lt hk
    have := f1 k hk'
    omega⟩
  clear h1 bb1 f1 H1
  go_wp2_with fail
  refine (begun_at H2.out.1.at' (HP.out.below H2.out.1.base) (fun hn => L7.off H2.out.1 HP.out hn)).mono ?_
  rintro _ v4 ⟨ka, kc, ha, hc, g2, rfl, h2, c2, f2⟩
  have HEQ : Hid (∃ S0, S0 = (PS.new 1000).begins (b0.take 60)) := ⟨_, rfl⟩
  obtain ⟨S0, hS0⟩ := HEQ.out
  rw [← hS0] at h2 ⊢
  have H3 : Hid (D7 w v4 p S0 g2 ka kc ha hc p' (PS.new 1000) g') := ⟨L7.of H2.out.1 h2 c2 f2, ⟨H2.out.2.1.at'.chg c2 H2.out.2.2, (H2.out.1.chg h2.at' c2 f2).base, H2.out.2.1.mine⟩, fun k hk hk' => by
    rcases f2 k hk with e | e
    · exact H2.out.2.2 k e hk'
    · have := H2.out.2.1.at'.lt hk'
      omega⟩
  have HS0 : Hid (S0 = (PS.new 1000).begins (b0.take 60)) := hS0
  clear h2 c2 f2 hS0 H2 HB1 HEQ
  go_wp2_with fail
  refine (begun_at H3.out.two.at' (HP.out.below H3.out.two.base) (fun hn => L7.off H3.out.two HP.out hn)).mono ?_
  rw [← HS0.out]
  rintro _ v5 ⟨ka2, kc2, ha2, hc2, g3, rfl, h2, c2, f2⟩
  have H4 : Hid (D7 w v5 p S0 g2 ka kc ha hc p' S0 g3) := by
    have h9 := H3.out.two.chg h2.at' c2 f2
    refine ⟨⟨⟨H3.out.one.own.at'.chg c2 (fun k hk hf => H3.out.apart k hf hk), h9.base, H3.out.one.own.mine⟩, H3.out.one.keys.chg c2 (fun k hk => H3.out.one.keys.off H3.out.two.at' hk), H3.out.one.hs.chg c2 (fun k hk => H3.out.one.hs.off H3.out.two.at' hk)⟩, h9, fun k hk hk' => ?_⟩
    rcases f2 k hk' with e | e
    · exact H3.out.apart k hk e
    · have := H3.out.one.own.at'.lt hk
      omega
  clear h2 c2 f2 H3 HS0
  obtain ⟨n0, HN0⟩ : ∃ n0, Hid (n0 = S0.ops.length) := ⟨_, rfl⟩
  rw [← HN0.out]
  have hn0 : n0 ≤ 1000 := by rw [HN0.out]; have := H4.out.one.own.at'.inv.size; have := H4.out.one.own.at'.inv.room; omega
  go_wp2_with fail
  go_loopw [16] (fun x wr => ∃ (k : Nat) (S : PS), k ≤ len1 ∧ x = .int .i64 (k : Int) ∧ Hid (D7 w wr p S g2 ka kc ha hc p' S0 g3 ∧ Goes S0 S)) (fun x _ => len1 - (intOf x).toNat)
  case atStart => exact ⟨0, S0, Nat.zero_le _, rfl, H4.out, Goes.refl _⟩
  case round =>
    obtain ⟨k, S, hk, rfl, HR⟩ := hrel
    clear H4
    go_upto_region 11 with fail
    go_cut [83] (fun t wz => t = .bool (decide (k < len1 ∧ k < 300 ∧ 0 < n0)) ∧ wz = wr)
    case first =>
      by_cases hc1 : k < len1
      · by_cases hc2 : k < 300
        · go_wp2_with fail
          go_meet
          exact ⟨congrArg Value.bool (decide_eq_decide.2 (by omega)), rfl⟩
        · go_wp2_with fail
          go_meet
          exact ⟨congrArg Value.bool (decide_eq_false (by omega)).symm, rfl⟩
      · go_wp2_with fail
        go_meet
        exact ⟨congrArg Value.bool (decide_eq_false (by omega)).symm, rfl⟩
    case rest =>
      obtain ⟨rfl, rfl⟩ := hcut
      by_cases hlt : k < len1 ∧ k < 300 ∧ 0 < n0
      · rw [decide_eq_true hlt]
        obtain ⟨hc1, hc2, hc3⟩ := hlt
        have hir := HI.out.below (Nat.le_refl _) HR.out.1.one.own.base
        obtain ⟨bk, off, hia, hcell⟩ := hir.here (by omega)
        have hci := hcell k hc1
        have hwf := hir.wf k hc1
        have HIA : Hid (a1 = some ⟨bk, off, none⟩) := hia
        rw [hia]
        generalize b1.getD k 0 = x at hci hwf
        obtain ⟨l0, u0⟩ := hwf
        clear hir hcell hia
        rename World => x9
        go_upto_if 91 with fail
        go_cut [17] (fun s wz => ∃ q : Nat, s = .int .i64 (q : Int) ∧ q ≤ 9223372036854775807 ∧ wz = x9)
        case first =>
          by_cases hq : x < 0
          · obtain ⟨q, e⟩ : ∃ q : Nat, -(x + 1) = (q : Int) := ⟨(-(x + 1)).toNat, by omega⟩
            have HE : Hid (-(x + 1) = (q : Int)) := e
            clear e
            go_wp2_with fail
            go_meet
            exact ⟨q, by rw [HE.out], by have := HE.out; omega, rfl⟩
          · go_wp2_with fail
            go_meet
            exact ⟨x.toNat, by rw [show ((x.toNat : Nat) : Int) = x by omega], by omega, rfl⟩
        case rest =>
          obtain ⟨q, rfl, hq, rfl⟩ := hcut
          have hmod : q % n0 < S.ops.length := by have := HR.out.2.len; have := HN0.out; have := Nat.mod_lt q hc3; omega
          have HST : Calls Try.prog 12 #[at_ p, .int .i64 ((q : Int) % (n0 : Int))] wc fun e w' => e = .returned (.tuple #[.bool ((S.step (q % n0)).done (q % n0)), .int .i64 0]) ∧ SkAt w' p (S.step (q % n0)) g2 ∧ Chg (Foot p g2) wc w' := by
            rw [← Int.natCast_emod]
            exact step_at HR.out.1.one.own.at' hmod
          have HGS : Hid (Goes S (S.step (q % n0))) := goes_step hmod
          clear hmod
          have hcc : (0 : Int) < (n0 : Int) := by omega
          go_wp2_with fail
          refine HST.mono ?_
          rintro _ v6 ⟨rfl, h4, c4⟩
          have H6 : Hid (D7 w v6 p (S.step (q % n0)) g2 ka kc ha hc p' S0 g3 ∧ Goes S0 (S.step (q % n0))) := ⟨HR.out.1.step1 h4 c4 HGS.out, HR.out.2.trans HGS.out⟩
          clear h4 c4 HST
          rw [← HIA.out]
          go_wp2
          first
            | exact ⟨⟨k + 1, S.step (q % n0), by omega, by go_num, H6⟩, by simp only [intOf]; omega⟩
            | (go_roundw
               case rel => exact ⟨k + 1, S.step (q % n0), by omega, by go_num, H6⟩
               case measure => simp only [intOf]; omega)
      · rw [decide_eq_false hlt]
        clear hlt
        rename World => x9
        go_wp2_with fail
        go_loopw [18] (fun x wr => ∃ (j : Nat) (T : PS), j ≤ n0 ∧ x = .int .i64 ((j : Int) - 1) ∧ Hid (D7 w wr p T g2 ka kc ha hc p' S0 g3 ∧ Goes S0 T ∧ ∀ t, j ≤ t → t < n0 → T.done t = true)) (fun x _ => (intOf x + 1).toNat)
        case atStart => exact ⟨n0, S, Nat.le_refl _, rfl, HR.out.1, HR.out.2, fun t h1 h2 => by omega⟩
        case round =>
          obtain ⟨j, T, hj, rfl, HR2⟩ := hrel
          clear HR
          cases j with
          | succ i =>
            rw [show ((i + 1 : Nat) : Int) - 1 = (i : Int) by omega]
            have hin : i < n0 := by omega
            have hiT : i < T.ops.length := by have := HR2.out.2.1.len; have := HN0.out; omega
            obtain ⟨hb, off, hha, hcell⟩ := HR2.out.1.one.hs.is.here (by omega)
            have hci := hcell i hiT
            have hle2 := HR2.out.1.one.hs.is.le
            have hmax2 := HR2.out.1.one.hs.is.max
            rw [hsI_at] at hci
            have hh := HR2.out.1.one.own.at'.inv.hsIn hiT
            have hleft := HR2.out.1.one.own.at'.inv.left_le hiT
            rw [PS.height_of_hs hiT] at hleft
            have hlT : T.ops.length = n0 := by have := HR2.out.2.1.len; have := HN0.out; omega
            rw [hlT] at hleft hle2
            unfold maxLen at hmax2
            obtain ⟨h, HH⟩ : ∃ h, Hid (h = T.hs.getD i 0) := ⟨_, rfl⟩
            rw [← HH.out] at hci hh hleft
            obtain ⟨hh1, hh2⟩ := hh
            have HE : Hid (wrap64 (wrap64 ((h : Int) * ((n0 : Int) + 16)) + 16) = ((h * (n0 + 16) + 16 : Nat) : Int)) := most_wrap hh2 hn0
            have hM := most_le hh2 hn0
            have hM1 : 1 ≤ h * (n0 + 16) + 16 := by omega
            obtain ⟨M, HM⟩ : ∃ M, Hid (M = h * (n0 + 16) + 16) := ⟨_, rfl⟩
            rw [← HM.out] at HE hM hM1 hleft
            have HWH := whole_at HR2.out.1.one.own.at' hiT hleft hM1 hM
            have HHA : Hid (ha = some ⟨hb, off, none⟩) := hha
            rw [hha]
            clear hcell hha hleft hlT
            go_wp2_with fail
            rw [HE.out]
            refine HWH.mono ?_
            rintro _ v7 ⟨r, T2, rfl, hr1, hr2, x7⟩
            have H7 : Hid (D7 w v7 p T2 g2 ka kc ha hc p' S0 g3 ∧ Goes S0 T2 ∧ ∀ t, i ≤ t → t < n0 → T2.done t = true) := ⟨HR2.out.1.step1 x7.at' x7.chg x7.goes, HR2.out.2.1.trans x7.goes, fun t h1 h2 => by
              by_cases e : t = i
              · rw [e]; exact x7.done
              · exact x7.goes.done t (HR2.out.2.2 t (by omega) h2)⟩
            clear x7 HWH hci
            go_wp2
            exact ⟨⟨i, T2, by omega, by go_num, by rw [← HHA.out]; exact H7⟩, by simp only [intOf]; omega⟩
          | zero =>
            clear hk hj
            rw [show (((0 : Nat) : Int) - 1) = (-1 : Int) from rfl]
            rename World => wr2
            have HT : Hid (D7 w wr2 p T g2 ka kc ha hc p' S0 g3 ∧ Goes S0 T ∧ ∀ t, t < n0 → T.done t = true) := ⟨HR2.out.1, HR2.out.2.1, fun t ht => HR2.out.2.2 t (Nat.zero_le _) ht⟩
            clear HR2
            go_wp2_with fail
            go_loopw [21] (fun x wr => ∃ (i : Nat) (T' : PS), i ≤ n0 ∧ x = .int .i64 (i : Int) ∧ Hid (D7 w wr p T g2 ka kc ha hc p' T' g3 ∧ Goes S0 T' ∧ ∀ t, t < i → T'.done t = true)) (fun x _ => n0 - (intOf x).toNat)
            case atStart => exact ⟨0, S0, Nat.zero_le _, rfl, HT.out.1, Goes.refl _, fun t ht => absurd ht (Nat.not_lt_zero _)⟩
            case round =>
              obtain ⟨i, T', hi, rfl, HR3⟩ := hrel
              by_cases hin : i < n0
              · have hiT : i < T'.ops.length := by have := HR3.out.2.1.len; have := HN0.out; omega
                have hlT : T.ops.length = n0 := by have := HT.out.2.1.len; have := HN0.out; omega
                obtain ⟨hb, off, hha, hcell⟩ := HR3.out.1.one.hs.is.here (by omega)
                have hci := hcell i (by omega)
                have hle2 := HR3.out.1.one.hs.is.le
                have hmax2 := HR3.out.1.one.hs.is.max
                rw [hsI_at, HT.out.2.1.hs, ← HR3.out.2.1.hs] at hci
                have hh := HR3.out.1.two.at'.inv.hsIn hiT
                have hleft := HR3.out.1.two.at'.inv.left_le hiT
                rw [PS.height_of_hs hiT] at hleft
                have hlT' : T'.ops.length = n0 := by have := HR3.out.2.1.len; have := HN0.out; omega
                rw [hlT'] at hleft
                rw [hlT] at hle2
                unfold maxLen at hmax2
                obtain ⟨h, HH⟩ : ∃ h, Hid (h = T'.hs.getD i 0) := ⟨_, rfl⟩
                rw [← HH.out] at hci hh hleft
                obtain ⟨hh1, hh2⟩ := hh
                have HE : Hid (wrap64 (wrap64 ((h : Int) * ((n0 : Int) + 16)) + 16) = ((h * (n0 + 16) + 16 : Nat) : Int)) := most_wrap hh2 hn0
                have hM := most_le hh2 hn0
                have hM1 : 1 ≤ h * (n0 + 16) + 16 := by omega
                obtain ⟨M, HM⟩ : ∃ M, Hid (M = h * (n0 + 16) + 16) := ⟨_, rfl⟩
                rw [← HM.out] at HE hM hM1 hleft
                have HWH := whole_at HR3.out.1.two.at' hiT hleft hM1 hM
                have HHA : Hid (ha = some ⟨hb, off, none⟩) := hha
                rw [hha]
                clear hcell hha hleft hlT hlT'
                go_wp2_with fail
                rw [HE.out]
                refine HWH.mono ?_
                rintro _ v7 ⟨r, T2, rfl, hr1, hr2, x7⟩
                have H7 : Hid (D7 w v7 p T g2 ka kc ha hc p' T2 g3 ∧ Goes S0 T2 ∧ ∀ t, t < i + 1 → T2.done t = true) := ⟨HR3.out.1.step2 x7.at' x7.chg, HR3.out.2.1.trans x7.goes, fun t ht => by
                  by_cases e : t = i
                  · rw [e]; exact x7.done
                  · exact x7.goes.done t (HR3.out.2.2 t (by omega))⟩
                clear x7 HWH hci
                go_wp2
                exact ⟨⟨i + 1, T2, by omega, by go_num, by rw [← HHA.out]; exact H7⟩, by simp only [intOf]; omega⟩
              · obtain rfl : i = n0 := by omega
                rename World => wr3
                have HX : Hid (D7 w wr3 p T g2 ka kc ha hc p' T' g3) := HR3.out.1
                have HLV : Hid (∀ n, n < 8 → T.lev n = T'.lev n ∧ T.lk n = T'.lk n) := fun n hn => by
                  have hk : T.keys = T'.keys := HT.out.2.1.keys.trans HR3.out.2.1.keys.symm
                  have hl : T.ops.length = T'.ops.length := HT.out.2.1.len.trans HR3.out.2.1.len.symm
                  have hS : T.allDone := fun t ht => HT.out.2.2 t (by have := HT.out.2.1.len; have := HN0.out; omega)
                  have hS' : T'.allDone := fun t ht => HR3.out.2.2 t (by have := HR3.out.2.1.len; have := HN0.out; omega)
                  have e := HT.out.1.one.own.at'.inv.same_levels HR3.out.1.two.at'.inv hS hS' hk (HT.out.2.1.hs.trans HR3.out.2.1.hs.symm) hn
                  refine ⟨e, ?_⟩
                  unfold PS.lk
                  rw [e]
                  refine List.map_congr_left fun x hx => ?_
                  have hx' := HR3.out.1.two.at'.inv.lt hn hx
                  rw [PS.key_of_keys (by omega), PS.key_of_keys hx', hk]
                have HFL : Hid ((T.lev 0).length = i) := by
                  unfold Hid
                  rw [HT.out.1.one.own.at'.inv.full (fun t ht => HT.out.2.2 t (by have := HT.out.2.1.len; have := HN0.out; omega)), HT.out.2.1.len, HN0.out]
                clear HR3 HT hin
                go_wp2_with fail
                go_loopw [23] (fun x wr => ∃ n : Nat, n ≤ 9 ∧ x = .int .i64 (n : Int) ∧ Hid (D7 w wr p T g2 ka kc ha hc p' T' g3)) (fun x _ => 9 - (intOf x).toNat)
                case atStart => exact ⟨0, by omega, rfl, HX⟩
                case round =>
                  obtain ⟨n, hn, rfl, HR4⟩ := hrel
                  by_cases hn8 : n < 8
                  · obtain ⟨e1, e2⟩ := HLV.out n hn8
                    have HK1 := keys_at HR4.out.one.own.at' hn8
                    rw [e1, e2] at HK1
                    have hlen := HR4.out.two.at'.inv.levLen hn8
                    obtain ⟨m, HMM⟩ : ∃ m, Hid (m = (T'.lev n).length) := ⟨_, rfl⟩
                    rw [← HMM.out] at HK1 hlen
                    clear e1 e2
                    go_wp2_with fail
                    refine HK1.mono ?_
                    rintro _ v8 ⟨a8, c8, rfl, o8, b8⟩
                    have H8 : Hid (D7 w v8 p T g2 ka kc ha hc p' T' g3 ∧ OwnS v8 wr.heap.size a8 m c8 (T'.lk n)) := ⟨HR4.out.below b8, o8⟩
                    clear o8 b8 HK1
                    have HK2 := keys_at H8.out.1.two.at' hn8
                    rw [← HMM.out] at HK2
                    go_wp2_with fail
                    refine HK2.mono ?_
                    rintro _ v9 ⟨a9, c9, rfl, o9, b9⟩
                    have H9 : Hid (D7 w v9 p T g2 ka kc ha hc p' T' g3 ∧ OwnS v9 wr.heap.size a8 m c8 (T'.lk n) ∧ OwnS v9 v8.heap.size a9 m c9 (T'.lk n)) := ⟨H8.out.1.below b9, H8.out.2.below b9, o9⟩
                    clear o9 b9 HK2
                    go_wp2_with fail
                    refine (same_at H9.out.2.1.st H9.out.2.2.st (by omega)).mono ?_
                    rintro _ v10 ⟨rfl, d, rfl⟩
                    have H10 : Hid (D7 w (v9.drewN d) p T g2 ka kc ha hc p' T' g3) := H9.out.1.below (Below.drewN' (Below.refl _ _) d)
                    go_wp2
                    first
                      | exact ⟨⟨n + 1, by omega, by go_num, H10⟩, by simp only [intOf]; omega⟩
                      | (go_roundw
                         case rel => exact ⟨n + 1, by omega, by go_num, H10⟩
                         case measure => simp only [intOf]; omega)
                  · by_cases hn9 : n = 8
                    · subst hn9
                      go_wp2_with fail
                      refine (keys_none (some ⟨p, 0, none⟩) 8 _ (by omega)).mono ?_
                      rintro _ v8 ⟨rfl, hw⟩
                      obtain rfl := hw.symm
                      clear hw
                      go_wp2_with fail
                      refine (keys_none (some ⟨p', 0, none⟩) 8 _ (by omega)).mono ?_
                      rintro _ v8 ⟨rfl, hw⟩
                      obtain rfl := hw.symm
                      clear hw
                      go_wp2_with fail
                      refine (same_at (l := []) (OwnS.nil _ 0).st (OwnS.nil _ 0).st (by omega)).mono ?_
                      rintro _ v10 ⟨rfl, d, rfl⟩
                      have H10 : Hid (D7 w (wr.drewN d) p T g2 ka kc ha hc p' T' g3) := HR4.out.below (Below.drewN' (Below.refl _ _) d)
                      go_wp2
                      first
                        | exact ⟨⟨9, by omega, by go_num, H10⟩, by simp only [intOf]; omega⟩
                        | (go_roundw
                           case rel => exact ⟨9, by omega, by go_num, H10⟩
                           case measure => simp only [intOf]; omega)
                    · obtain rfl : n = 9 := by omega
                      have HK1 := keys_at HR4.out.one.own.at' (l := 0) (by omega)
                      rw [HFL.out] at HK1
                      go_wp2_with fail
                      refine HK1.mono ?_
                      rintro _ v8 ⟨a8, c8, rfl, o8, b8⟩
                      have H8 : Hid (Below w.heap.size w v8) := (HR4.out.below b8).two.base
                      clear o8 b8 HK1
                      go_wp2_with fail
                      refine (keys_none (some ⟨p, 0, none⟩) 8 _ (by omega)).mono ?_
                      rintro _ v9 ⟨rfl, hw⟩
                      obtain rfl := hw.symm
                      clear hw
                      go_wp2
                      go_returns
                      exact ⟨rfl, H8.out⟩
end Go.Proofs.Ytnjkfmglohcmhaa
