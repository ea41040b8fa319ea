/- SkipLevels: the walk. -/
import Derived.Test.YtnjkfmglohcmhabS7D
import Derived.Deep.DeepCutAuto
namespace Go.Proofs.Ytnjkfmglohcmhab
open Go.RowKit
set_option linter.unusedVariables false
/-- How many of the first j are so high. -/
def highs (hs : List Nat) (n j : Nat) : Nat := (hs.take j).countP (fun h => decide (n < h))
theorem highs_succ {hs : List Nat} {n j : Nat} (hj : j < hs.length) : highs hs n (j + 1) = highs hs n j + if n < hs.getD j 0 then 1 else 0 := by
  unfold highs
  rw [List.take_succ_eq_append_getElem hj, List.countP_append]
  simp [List.getD, hj, List.countP_cons]
theorem highs_le (hs : List Nat) (n j : Nat) : highs hs n j ≤ j := by
  unfold highs
  exact Nat.le_trans List.countP_le_length (List.length_take_le _ _)
theorem countP_range (f : Nat → Bool) (hs : List Nat) : hs.countP f = (List.range hs.length).countP (fun i => f (hs.getD i 0)) := by
  have e : hs = (List.range hs.length).map (fun i => hs.getD i 0) := by
    refine List.ext_getElem (by simp) fun k h1 h2 => ?_
    simp [List.getD, h1]
  conv => lhs; rw [e]
  rw [List.countP_map]
  rfl
theorem PS.Inv.levCount {S : PS} (h : S.Inv) (ha : S.allDone) {n : Nat} (hn : n < 8) : (S.lev n).length = highs S.hs n S.hs.length := by
  unfold highs
  rw [List.take_length, countP_range]
  have hl : S.hs.length = S.ops.length := by simp [PS.hs]
  rw [hl, List.countP_eq_length_filter]
  have hnd : ((List.range S.ops.length).filter (fun i => decide (n < S.hs.getD i 0))).Nodup := List.Pairwise.filter _ List.nodup_range
  refine Nat.le_antisymm (List.Nodup.length_le_of_subset (h.nodup hn) fun x hx => ?_) (List.Nodup.length_le_of_subset hnd fun x hx => ?_)
  · rw [h.mem_done ha hn] at hx
    rw [List.mem_filter, List.mem_range]
    exact ⟨hx.1, by simpa using hx.2⟩
  · rw [List.mem_filter, List.mem_range] at hx
    rw [h.mem_done ha hn]
    exact ⟨hx.1, by simpa using hx.2⟩
theorem PS.lk_has {S : PS} {n i : Nat} (hm : i ∈ S.lev n) (hi : i < S.ops.length) : S.keys.getD i ⟨#[]⟩ ∈ S.lk n := by
  rw [← PS.key_of_keys hi]
  exact List.mem_map.2 ⟨i, hm, rfl⟩
set_option maxRecDepth 100000 in
set_option maxHeartbeats 8000000 in
theorem skipLevels_walk (a0 : Option Addr) (len0 cap0 : Nat) (b0 : List PutV) (a1 : Option Addr) (len1 cap1 : Nat) (b1 : List Int) (w : World) (w0 : PsAt w a0 len0 cap0 b0) (w1 : IsAt w a1 len1 cap1 b1) :
    Calls Try.prog 3 #[.slice a0 len0 cap0, .slice a1 len1 cap1] w fun e w' => e = .returned (.bool true) ∧ Below w.heap.size w w' := by
  have HP : Hid (PsAt w a0 len0 cap0 b0) := w0
  have HI : Hid (IsAt w a1 len1 cap1 b1) := w1
  have hmax1 := w1.max
  have hle1 := w1.le
  unfold maxLen at hmax1
  clear w0 w1
  go_enter Try.func3, Try.ntmps3
  go_wp2_with fail
  refine (awake_any _).mono ?_
  rintro _ v1 ⟨rfl, hb1⟩
  have HB1 : Hid (Below w.heap.size w v1) := hb1
  clear hb1
  go_wp2_with fail
  refine (new_at 1000 v1 (by omega)).mono ?_
  rintro _ v2 ⟨p, g, rfl, h1, bb1, f1⟩
  have H1 : Hid (Own7 w v2 p (PS.new 1000) g) := ⟨h1, HB1.out.trans (bb1.mono HB1.out.size), fun k hk => Nat.le_trans HB1.out.size (f1 k hk)⟩
  clear h1 bb1 f1
  go_wp2_with fail
  refine (begun_at H1.out.at' (HP.out.below H1.out.base) (fun hn => L7.off H1.out HP.out hn)).mono ?_
  rintro _ v3 ⟨ka, kc, ha, hc, g2, rfl, h2, c2, f2⟩
  obtain ⟨S0, hS0⟩ : ∃ S0, S0 = (PS.new 1000).begins (b0.take 60) := ⟨_, rfl⟩
  rw [← hS0] at h2 ⊢
  have H2 : Hid (L7 w v3 p S0 g2 ka kc ha hc) := L7.of H1.out h2 c2 f2
  clear h2 c2 f2 hS0 H1 HB1
  obtain ⟨n0, HN0⟩ : ∃ n0, Hid (n0 = S0.ops.length) := ⟨_, rfl⟩
  rw [← HN0.out]
  have hn0 : n0 ≤ 1000 := by rw [HN0.out]; have := H2.out.own.at'.inv.size; have := H2.out.own.at'.inv.room; omega
  go_wp2_with fail
  go_loopw [11] (fun x wr => ∃ (i : Nat) (T : PS), i ≤ n0 ∧ x = .int .i64 (i : Int) ∧ Hid (L7 w wr p T g2 ka kc ha hc ∧ Goes S0 T ∧ ∀ t, t < i → T.done t = true)) (fun x _ => n0 - (intOf x).toNat)
  case atStart => exact ⟨0, S0, Nat.zero_le _, rfl, H2.out, Goes.refl _, fun t ht => absurd ht (Nat.not_lt_zero _)⟩
  case round =>
    obtain ⟨i, T, hi, rfl, HR⟩ := hrel
    by_cases hin : i < n0
    · have hiT : i < T.ops.length := by have := HR.out.2.1.len; have := HN0.out; omega
      have hlT : T.ops.length = n0 := by have := HR.out.2.1.len; have := HN0.out; omega
      obtain ⟨hb, off, hha, hcell⟩ := HR.out.1.hs.is.here (by omega)
      have hci := hcell i (by omega)
      have hle2 := HR.out.1.hs.is.le
      have hmax2 := HR.out.1.hs.is.max
      rw [hsI_at] at hci
      have hh := HR.out.1.own.at'.inv.hsIn hiT
      have hleft := HR.out.1.own.at'.inv.left_le hiT
      rw [PS.height_of_hs hiT, hlT] at hleft
      rw [hlT] at hle2
      unfold maxLen at hmax2
      obtain ⟨h, HH⟩ : ∃ h, Hid (h = T.hs.getD i 0) := ⟨_, rfl⟩
      rw [← HH.out] at hci hh hleft
      obtain ⟨hh1, hh2⟩ := hh
      have HE : Hid (wrap64 (wrap64 ((h : Int) * ((n0 : Int) + 16)) + 16) = ((h * (n0 + 16) + 16 : Nat) : Int)) := most_wrap hh2 hn0
      have hM := most_le hh2 hn0
      have hM1 : 1 ≤ h * (n0 + 16) + 16 := by omega
      obtain ⟨M, HM⟩ : ∃ M, Hid (M = h * (n0 + 16) + 16) := ⟨_, rfl⟩
      rw [← HM.out] at HE hM hM1 hleft
      have HWH := whole_at HR.out.1.own.at' hiT hleft hM1 hM
      have HHA : Hid (ha = some ⟨hb, off, none⟩) := hha
      rw [hha]
      clear hcell hha hleft hlT
      go_wp2_with fail
      rw [HE.out]
      refine HWH.mono ?_
      rintro _ v7 ⟨r, T2, rfl, hr1, hr2, x7⟩
      have H7 : Hid (L7 w v7 p T2 g2 ka kc ha hc ∧ Goes S0 T2 ∧ ∀ t, t < i + 1 → T2.done t = true) := ⟨HR.out.1.step x7.at' x7.chg x7.goes, HR.out.2.1.trans x7.goes, fun t ht => by
        by_cases e : t = i
        · rw [e]; exact x7.done
        · exact x7.goes.done t (HR.out.2.2 t (by omega))⟩
      clear x7 HWH hci
      go_wp2
      exact ⟨⟨i + 1, T2, by omega, by go_num, by rw [← HHA.out]; exact H7⟩, by simp only [intOf]; omega⟩
    · obtain rfl : i = n0 := by omega
      rename World => wr1
      have HT : Hid (L7 w wr1 p T g2 ka kc ha hc ∧ T.ops.length = i ∧ T.allDone) := ⟨HR.out.1, by rw [HR.out.2.1.len, HN0.out], fun t ht => HR.out.2.2 t (by have := HR.out.2.1.len; have := HN0.out; omega)⟩
      clear HR hin H2 HN0
      go_wp2_with fail
      go_loopw [13] (fun x wr => ∃ (k : Nat), k ≤ len1 ∧ x = .int .i64 (k : Int) ∧ Hid (L7 w wr p T g2 ka kc ha hc)) (fun x _ => len1 - (intOf x).toNat)
      case atStart => exact ⟨0, Nat.zero_le _, rfl, HT.out.1⟩
      case round =>
        obtain ⟨k, hk, rfl, HR⟩ := hrel
        go_upto_region 15 with fail
        go_cut [78] (fun t wz => t = .bool (decide (k < len1 ∧ k < 50 ∧ 0 < i)) ∧ wz = wr)
        case first =>
          by_cases hc1 : k < len1
          · by_cases hc2 : k < 50
            · go_wp2_with fail
              go_meet
              exact ⟨congrArg Value.bool (decide_eq_decide.2 (by omega)), rfl⟩
            · go_wp2_with fail
              go_meet
              exact ⟨congrArg Value.bool (decide_eq_false (by omega)).symm, rfl⟩
          · go_wp2_with fail
            go_meet
            exact ⟨congrArg Value.bool (decide_eq_false (by omega)).symm, rfl⟩
        case rest =>
          obtain ⟨rfl, rfl⟩ := hcut
          by_cases hlt : k < len1 ∧ k < 50 ∧ 0 < i
          · rw [decide_eq_true hlt]
            obtain ⟨hc1, hc2, hc3⟩ := hlt
            have hir := HI.out.below (Nat.le_refl _) HR.out.own.base
            obtain ⟨bk, off, hia, hcell⟩ := hir.here (by omega)
            have hci := hcell k hc1
            have hwf := hir.wf k hc1
            have HIA : Hid (a1 = some ⟨bk, off, none⟩) := hia
            rw [hia]
            generalize b1.getD k 0 = x at hci hwf
            obtain ⟨l0, u0⟩ := hwf
            clear hir hcell hia
            rename World => x9
            go_upto_if 86 with fail
            go_cut [14] (fun s wz => ∃ q : Nat, s = .int .i64 (q : Int) ∧ q ≤ 9223372036854775807 ∧ wz = x9)
            case first =>
              by_cases hq : x < 0
              · obtain ⟨q, e⟩ : ∃ q : Nat, -(x + 1) = (q : Int) := ⟨(-(x + 1)).toNat, by omega⟩
                have HE : Hid (-(x + 1) = (q : Int)) := e
                clear e
                go_wp2_with fail
                go_meet
                exact ⟨q, by rw [HE.out], by have := HE.out; omega, rfl⟩
              · go_wp2_with fail
                go_meet
                exact ⟨x.toNat, by rw [show ((x.toNat : Nat) : Int) = x by omega], by omega, rfl⟩
            case rest =>
              obtain ⟨q, rfl, hq, rfl⟩ := hcut
              have hmod : q % i < T.ops.length := by have := HT.out.2.1; have := Nat.mod_lt q hc3; omega
              have HST : Calls Try.prog 8 #[at_ p, .int .i64 ((q : Int) % (i : Int))] wc fun e w' => e = .returned (.tuple #[.bool true, .int .i64 0]) ∧ SkAt w' p T g2 ∧ Chg (Foot p g2) wc w' := by
                rw [← Int.natCast_emod]
                have := step_at HR.out.own.at' hmod
                rw [PS.step_done (HT.out.2.2 _ hmod), HT.out.2.2 _ hmod] at this
                exact this
              clear hmod
              have hcc : (0 : Int) < (i : Int) := by omega
              go_wp2_with fail
              refine HST.mono ?_
              rintro _ v6 ⟨rfl, h4, c4⟩
              have H6 : Hid (L7 w v6 p T g2 ka kc ha hc) := HR.out.step h4 c4 (Goes.refl _)
              clear h4 c4 HST
              rw [← HIA.out]
              go_wp2
              first
                | exact ⟨⟨k + 1, by omega, by go_num, H6⟩, by simp only [intOf]; omega⟩
                | (go_roundw
                   case rel => exact ⟨k + 1, by omega, by go_num, H6⟩
                   case measure => simp only [intOf]; omega)
          · rw [decide_eq_false hlt]
            clear hlt
            rename World => wr2
            have HT2 : Hid (L7 w wr2 p T g2 ka kc ha hc) := HR.out
            clear HR
            go_wp2_with fail
            go_loopw [17] (fun x wr => ∃ n : Nat, n ≤ 8 ∧ x = .int .i64 (n : Int) ∧ Hid (L7 w wr p T g2 ka kc ha hc)) (fun x _ => 8 - (intOf x).toNat)
            case atStart => exact ⟨0, by omega, rfl, HT2⟩
            case round =>
              obtain ⟨n, hn, rfl, HR⟩ := hrel
              clear HT2
              by_cases hn8 : n < 8
              · have HK := keys_at HR.out.own.at' hn8
                have HLC : Hid ((T.lev n).length = highs T.hs n i) := by
                  unfold Hid
                  rw [HR.out.own.at'.inv.levCount HT.out.2.2 hn8, show T.hs.length = i by simp [PS.hs]; exact HT.out.2.1]
                obtain ⟨m, HM⟩ : ∃ m, Hid (m = (T.lev n).length) := ⟨_, rfl⟩
                rw [← HM.out] at HK
                go_wp2_with fail
                refine HK.mono ?_
                rintro _ v8 ⟨a8, c8, rfl, o8, b8⟩
                have H8 : Hid (L7 w v8 p T g2 ka kc ha hc ∧ OwnS v8 wr.heap.size a8 m c8 (T.lk n)) := ⟨HR.out.below b8, o8⟩
                clear o8 b8 HK HR
                have hle3 := H8.out.1.hs.is.le
                have hmax3 := H8.out.1.hs.is.max
                have hle4 := H8.out.1.keys.st.le
                have hmax4 := H8.out.1.keys.st.max
                rw [HT.out.2.1] at hle3 hle4
                unfold maxLen at hmax3 hmax4
                go_wp2_with fail
                go_loop [19, 20] (fun x y => ∃ j : Nat, j ≤ i ∧ x = .int .i64 (highs T.hs n j : Int) ∧ y = .int .i64 (j : Int)) (fun _ y => i - (intOf y).toNat)
                case atStart => exact ⟨0, Nat.zero_le _, rfl, rfl⟩
                case round =>
                  obtain ⟨j, hj, rfl, rfl⟩ := hrel
                  by_cases hji : j < i
                  · have hjT : j < T.ops.length := by rw [HT.out.2.1]; exact hji
                    obtain ⟨hb, off, hha, hcell⟩ := H8.out.1.hs.is.here (by omega)
                    have hci := hcell j hjT
                    obtain ⟨kb, koff, hka, hkcell⟩ := H8.out.1.keys.st.here (by omega)
                    have hck := hkcell j hjT
                    rw [hsI_at] at hci
                    have hsu := highs_succ (hs := T.hs) (n := n) (j := j) (by simp [PS.hs]; exact hjT)
                    have hhl := highs_le T.hs n j
                    have HHA : Hid (ha = some ⟨hb, off, none⟩) := hha
                    have HKA : Hid (ka = some ⟨kb, koff, none⟩) := hka
                    have hin := fun hlt : n < T.hs.getD j 0 => hasB_true.2 (PS.lk_has ((H8.out.1.own.at'.inv.mem_done HT.out.2.2 hn8 j).2 ⟨hjT, hlt⟩) hjT)
                    have HHS := has_at H8.out.2.st (T.keys.getD j ⟨#[]⟩)
                    generalize T.keys.getD j ⟨#[]⟩ = kj at hck HHS hin
                    have hhi := (H8.out.1.own.at'.inv.hsIn hjT).2
                    generalize T.hs.getD j 0 = h at hci hsu hin hhi
                    have HSU : Hid (highs T.hs n (j + 1) = highs T.hs n j + if n < h then 1 else 0) := hsu
                    generalize hq : highs T.hs n j = q at hhl ⊢
                    have HQ : Hid (highs T.hs n j = q) := hq
                    rw [hha, hka]
                    clear hha hka hcell hkcell hsu hq
                    by_cases hlt : n < h
                    · rw [hin hlt] at HHS
                      clear hin
                      go_wp2_with fail
                      refine HHS.mono ?_
                      rintro _ _ ⟨rfl, hw⟩
                      obtain rfl := hw.symm
                      clear hw
                      go_wp2
                      exact ⟨⟨j + 1, by omega, by rw [HSU.out, HQ.out, if_pos hlt]; go_num, by go_num⟩, by simp only [intOf]; omega⟩
                    · clear hin HHS
                      go_wp2
                      exact ⟨⟨j + 1, by omega, by rw [HSU.out, HQ.out, if_neg hlt]; rfl, by go_num⟩, by simp only [intOf]; omega⟩
                  · obtain rfl : j = i := by omega
                    have hmq : m = highs T.hs n j := by rw [HM.out, HLC.out]
                    rw [← hmq]
                    clear hmq
                    have hmi : m ≤ 1000 := by rw [HM.out]; exact H8.out.1.own.at'.inv.levLen hn8
                    go_wp2
                    first
                      | exact ⟨⟨n + 1, by omega, by go_num, H8.out.1⟩, by simp only [intOf]; omega⟩
                      | (go_roundw
                         case rel => exact ⟨n + 1, by omega, by go_num, H8.out.1⟩
                         case measure => simp only [intOf]; omega)
              · go_wp2
                go_returns
                exact ⟨rfl, HR.out.own.base⟩
end Go.Proofs.Ytnjkfmglohcmhab
