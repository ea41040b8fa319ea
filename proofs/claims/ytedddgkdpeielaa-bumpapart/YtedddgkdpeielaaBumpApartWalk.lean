/- BumpApart: the walk. -/
import Derived.Test.YtedddgkdpeielaaB6Mix
import Derived.Test.YtedddgkdpeielaaB6Args
import Derived.Deep.DeepCutAuto
import Derived.Deep.RegionWith
namespace Go.Proofs.Ytedddgkdpeielaa
open Go.RowKit
set_option maxRecDepth 100000 in
set_option maxHeartbeats 4000000 in
theorem bumpApart_walk (a0 : Option Addr) (len0 cap0 : Nat) (S : List Int) (a1 : Option Addr) (len1 cap1 : Nat) (C : List Int) (w : World) (hs : IsAt w a0 len0 cap0 S) (hc : IsAt w a1 len1 cap1 C) : Calls Try.prog 5 #[.slice a0 len0 cap0, .slice a1 len1 cap1] w fun e w' => e = .returned (.bool true) ∧ Below w.heap.size w w' := by
  have HS : Hid (IsAt w a0 len0 cap0 S) := hs
  have HC : Hid (IsAt w a1 len1 cap1 C) := hc
  have HZ : Hid (C.length = len1) := hc.size
  have h1 := hs.le
  have h2 := hs.max
  have h3 := hc.le
  have h4 := hc.max
  unfold maxLen at h2 h4
  clear hs hc
  go_enter Try.func5, Try.ntmps5
  go_wp2_with fail
  refine (awake_any _).mono ?_
  rintro _ w1 ⟨rfl, hb1⟩
  have HB1 : Hid (Below w.heap.size w w1) := hb1
  clear hb1
  go_wp2_with fail
  refine (new_at 65536 (by omega)).mono ?_
  rintro _ w2 ⟨rfl, a2, hb2, hz2⟩
  obtain ⟨p, hp⟩ : ∃ p, Hid (p = w1.heap.size) := ⟨_, rfl⟩
  rw [← hp.out] at a2 ⊢
  have HT0 : Hid (Three w w2 p (apA S C 0) none 0 0 (atL S C.length 0) none 0 0 (ofL S 0) none 0 0 (idL (min 0 len1))) := by
    have h5 := HB1.out.size
    have h6 := hp.out
    rw [Nat.zero_min]
    exact ⟨a2, OwnN.nil _ _, OwnN.nil _ _, OwnN.nil _ _, (fun k e => nomatch e), (fun k e => nomatch e), (fun k e => nomatch e), by omega, HB1.out.trans (hb2.mono h5)⟩
  clear a2 hb2 hz2 hp HB1
  go_wp2_with fail
  go_loopw [8, 9, 10, 11] (fun x y z i wr => ∃ (k cx cy nz cz : Nat) (ax ay az : Option Addr), k ≤ len0 ∧ k ≤ 50 ∧ i = .int .i64 (k : Int) ∧ x = .slice ax k cx ∧ y = .slice ay k cy ∧ z = .slice az nz cz ∧ nz ≤ 50 ∧ Hid (nz = min k len1) ∧ Hid (Three w wr p (apA S C k) ax k cx (atL S C.length k) ay k cy (ofL S k) az nz cz (idL nz))) (fun _ _ _ i _ => 50 - (intOf i).toNat)
  case atStart => exact ⟨0, 0, 0, 0, 0, none, none, none, Nat.zero_le _, Nat.zero_le _, rfl, rfl, rfl, rfl, Nat.zero_le _, by unfold Hid; omega, by have := HT0.out; rw [Nat.zero_min] at this; exact this⟩
  case round =>
    obtain ⟨k, cx, cy, nz, cz, ax, ay, az, hk1, hk2, rfl, rfl, rfl, rfl, hnz, HNZ, HT⟩ := hrel
    clear HT0
    go_upto_region 9 with fail
    go_cut [49] (fun t wz => t = .bool (decide (k < len0 ∧ k < 50)) ∧ wz = wr)
    case first =>
      by_cases hk3 : k < len0
      · go_wp2_with fail
        go_meet
        exact ⟨congrArg Value.bool (decide_eq_decide.2 (by omega)), rfl⟩
      · go_wp2_with fail
        go_meet
        exact ⟨congrArg Value.bool (decide_eq_false (by omega)).symm, rfl⟩
    case rest =>
      obtain ⟨rfl, rfl⟩ := hcut
      by_cases hlt : k < len0 ∧ k < 50
      · rw [decide_eq_true hlt]
        obtain ⟨hlt1, hlt2⟩ := hlt
        obtain ⟨b, off, hla, hlc⟩ := HS.out.here (by omega)
        have x9 := hlc k hlt1
        have hvw := HS.out.wf k hlt1
        obtain ⟨v, hv⟩ : ∃ v, Hid (v = S.getD k 0) := ⟨_, rfl⟩
        rw [← hv.out] at x9 hvw
        have x0 : wc.cell? ⟨b, off + k, none⟩ = some (.int .i64 v) := by rw [HT.out.base.cell (World.block_lt_of_cell? w _ x9)]; exact x9
        obtain ⟨l1, u1⟩ := hvw
        clear hlc x9
        rw [hla]
        have hx1 : (0 : Int) ≤ (k : Int) := by omega
        have hx2 : (k : Int) < (len0 : Int) := by omega
        go_upto_if 57 with fail
        go_cut [12] (fun s wz => ∃ q : Nat, s = .int .i64 (q : Int) ∧ q ≤ 9223372036854775807 ∧ Hid (1 + q % 300 = nS S k) ∧ wz = wc)
        case first =>
          by_cases hq : v < 0
          · obtain ⟨q, e⟩ : ∃ q : Nat, -(v + 1) = (q : Int) := ⟨(-(v + 1)).toNat, by omega⟩
            have HE : Hid (-(v + 1) = (q : Int)) := e
            clear e
            go_wp2_with fail
            go_meet
            refine ⟨q, by rw [HE.out], by have := HE.out; omega, ?_, rfl⟩
            have e := HE.out
            unfold Hid nS nOf
            rw [← hv.out, if_pos hq, e, Int.toNat_natCast]
          · go_wp2_with fail
            go_meet
            refine ⟨v.toNat, by rw [show ((v.toNat : Nat) : Int) = v by omega], by omega, ?_, rfl⟩
            unfold Hid nS nOf
            rw [← hv.out, if_neg (by omega)]
        case rest =>
          obtain ⟨q, rfl, hq, HQ, rfl⟩ := hcut
          clear l1 u1 x0
          have hns := nS_le S k
          obtain ⟨n, hn⟩ : ∃ n : Nat, Hid (n = nS S k) := ⟨_, rfl⟩
          have HE : Hid (1 + (q : Int) % 300 = (n : Int)) := by
            unfold Hid
            have := HQ.out
            rw [hn.out, ← this]
            omega
          go_wp2_with fail
          rw [HE.out]
          have ho := offL_le S C.length k
          obtain ⟨o, HO⟩ : ∃ o, Hid (o = offL S C.length k) := ⟨_, rfl⟩
          rw [← HO.out] at ho
          have hsz : w.heap.size ≤ wc.heap.size := HT.out.base.size
          refine (alloc_at HT.out.ar (n : Int) (in64_lit (by rw [hn.out]; omega))).mono ?_
          rintro _ w3 ⟨rfl, a3, c3⟩
          have e3 := apA_alloc S C hlt2
          rw [← hn.out, ← HO.out] at e3
          rw [e3] at a3 ⊢
          have hn1 : 1 ≤ n ∧ n ≤ 300 := by rw [hn.out]; exact hns
          have HT3 : Hid (Three w w3 p ⟨o + n, zB, C.take k⟩ ax k cx (atL S C.length k) ay k cy (ofL S k) az nz cz (idL nz)) := HT.out.turn c3 a3
          clear e3 a3 c3 HE HQ hns hsz
          go_wp2_with (first | (at_builtin; refine wpList_push w3 rfl _ _ rfl w.heap.size _ k cx (atL S C.length k) rfl HT3.out.ox (o : Int) (in64_lit (by omega)) rfl (by omega) HT3.out.base.size ?_))
          intro g4 c4 w4 hr4 hg4 hl4
          have HT4 : Hid (Three w w4 p ⟨o + n, zB, C.take k⟩ (some ⟨g4, 0, none⟩) (k + 1) c4 (atL S C.length (k + 1)) ay k cy (ofL S k) az nz cz (idL nz)) := by
            unfold Hid
            rw [atL_succ, ← HO.out]
            exact HT3.out.pushX hr4 hg4 hl4
          clear hr4 hg4 hl4 HT3
          go_wp2_with (first | (at_builtin; refine wpList_push w4 rfl _ _ rfl w.heap.size _ k cy (ofL S k) rfl HT4.out.oy (n : Int) (in64_lit (by omega)) rfl (by omega) HT4.out.base.size ?_))
          intro g5 c5 w5 hr5 hg5 hl5
          have HT5 : Hid (Three w w5 p ⟨o + n, zB, C.take k⟩ (some ⟨g4, 0, none⟩) (k + 1) c4 (atL S C.length (k + 1)) (some ⟨g5, 0, none⟩) (k + 1) c5 (ofL S (k + 1)) az nz cz (idL nz)) := by
            unfold Hid
            rw [ofL_succ, ← hn.out]
            exact HT4.out.pushY hr5 hg5 hl5
          clear hr5 hg5 hl5 HT4
          by_cases hk5 : k < len1
          · have hkC : k < C.length := by rw [HZ.out]; exact hk5
            obtain ⟨b1, off1, hla1, hlc1⟩ := HC.out.here (by omega)
            have y9 := hlc1 k hk5
            have hyw := HC.out.wf k hk5
            obtain ⟨u, hu⟩ : ∃ u, Hid (u = C.getD k 0) := ⟨_, rfl⟩
            rw [← hu.out] at y9 hyw
            have HY : Hid (∀ w', Below w.heap.size w w' → w'.cell? ⟨b1, off1 + k, none⟩ = some (.int .i64 u)) := fun w' hb => by rw [hb.cell (World.block_lt_of_cell? w _ y9)]; exact y9
            have HYW : Hid (in64 u) := hyw
            clear hlc1 y9 hyw
            rw [hla1]
            have hx3 : (k : Int) < (len1 : Int) := by omega
            go_wp2_with fail
            refine (cell_at HT5.out.ar).mono ?_
            rintro _ w6 ⟨rfl, a6, c6⟩
            rw [apA_cell C (u := o + n) (by omega) hkC] at a6 ⊢
            have HT6 : Hid (Three w w6 p ⟨o + n + 8, zB, C.take k ++ [0]⟩ (some ⟨g4, 0, none⟩) (k + 1) c4 (atL S C.length (k + 1)) (some ⟨g5, 0, none⟩) (k + 1) c5 (ofL S (k + 1)) az nz cz (idL nz)) := HT5.out.turn c6 a6
            clear a6 c6 HT5
            have y0 := HY.out _ HT6.out.base
            go_wp2_with fail
            refine (store_at HT6.out.ar (k : Int) u HYW.out).mono ?_
            rintro _ w7 ⟨rfl, a7, c7⟩
            have e7 := apA_store C (u := o + n + 8) hkC
            rw [← hu.out] at e7
            rw [e7] at a7 ⊢
            have hnk : nz = k := by have := HNZ.out; omega
            subst hnk
            have HT7 : Hid (Three w w7 p (apA S C (nz + 1)) (some ⟨g4, 0, none⟩) (nz + 1) c4 (atL S C.length (nz + 1)) (some ⟨g5, 0, none⟩) (nz + 1) c5 (ofL S (nz + 1)) az nz cz (idL nz)) := by
              unfold Hid
              have e := apA_next S C hkC
              rw [← hn.out, ← HO.out] at e
              rw [← e]
              exact HT6.out.turn c7 a7
            clear e7 a7 c7 HT6 y0
            go_wp2_with (first | (at_builtin; refine wpList_push w7 rfl _ _ rfl w.heap.size _ nz cz (idL nz) rfl HT7.out.oz (nz : Int) (in64_lit (by omega)) rfl (by omega) HT7.out.base.size ?_))
            intro g8 c8 w8 hr8 hg8 hl8
            have HT8 : Hid (Three w w8 p (apA S C (nz + 1)) (some ⟨g4, 0, none⟩) (nz + 1) c4 (atL S C.length (nz + 1)) (some ⟨g5, 0, none⟩) (nz + 1) c5 (ofL S (nz + 1)) (some ⟨g8, 0, none⟩) (nz + 1) c8 (idL (nz + 1))) := by
              unfold Hid
              rw [idL_succ]
              exact HT7.out.pushZ hr8 hg8 hl8
            clear hr8 hg8 hl8 HT7
            have HM : Hid (nz + 1 = min (nz + 1) len1) := by unfold Hid; omega
            go_wp2
            rw [← hla1, ← hla]
            clear hla hla1
            go_roundw
            case rel => exact ⟨nz + 1, c4, c5, nz + 1, c8, _, _, _, by omega, by omega, by go_num, rfl, rfl, rfl, by omega, HM, HT8⟩
            case measure => simp [intOf]; omega
          · have hkC : ¬ k < C.length := by rw [HZ.out]; exact hk5
            have HT6 : Hid (Three w w5 p (apA S C (k + 1)) (some ⟨g4, 0, none⟩) (k + 1) c4 (atL S C.length (k + 1)) (some ⟨g5, 0, none⟩) (k + 1) c5 (ofL S (k + 1)) az nz cz (idL nz)) := by
              unfold Hid
              have e := apA_more S C hkC
              rw [← hn.out, ← HO.out] at e
              rw [← e]
              exact HT5.out
            have HM : Hid (nz = min (k + 1) len1) := by have := HNZ.out; unfold Hid; omega
            clear HT5 HNZ
            go_wp2
            rw [← hla]
            clear hla
            go_roundw
            case rel => exact ⟨k + 1, c4, c5, nz, cz, _, _, _, by omega, by omega, by go_num, rfl, rfl, rfl, hnz, HM, HT6⟩
            case measure => simp [intOf]; omega
      · rw [decide_eq_false hlt]
        go_wp2_with fail
        have hK : k ≤ 50 := hk2
        clear hlt
        have HK0 : Hid (∃ bytes, Laid S C.length 0 bytes ∧ Three w wc p ⟨offL S C.length k, bytes, C.take k⟩ ax k cx (atL S C.length k) ay k cy (ofL S k) az nz cz (idL nz)) := ⟨zB, ⟨zB_len, fun j hj => absurd hj (Nat.not_lt_zero _)⟩, HT.out⟩
        clear HT
        rename World => x1
        go_loopw [17] (fun i wz => ∃ (j : Nat), j ≤ k ∧ i = .int .i64 (j : Int) ∧ Hid (∃ bytes, Laid S C.length j bytes ∧ Three w wz p ⟨offL S C.length k, bytes, C.take k⟩ ax k cx (atL S C.length k) ay k cy (ofL S k) az nz cz (idL nz))) (fun i _ => k - (intOf i).toNat)
        case atStart => exact ⟨0, Nat.zero_le _, rfl, HK0⟩
        case round =>
          obtain ⟨j, hj, rfl, HR⟩ := hrel
          clear HK0
          by_cases hjk : j < k
          · rename World => x2
            obtain ⟨bytes, HLd, HTh⟩ : ∃ bytes, Hid (Laid S C.length j bytes) ∧ Hid (Three w x2 p ⟨offL S C.length k, bytes, C.take k⟩ ax k cx (atL S C.length k) ay k cy (ofL S k) az nz cz (idL nz)) := HR.out
            clear HR
            obtain ⟨n, hn⟩ : ∃ n, Hid (n = nS S j) := ⟨_, rfl⟩
            have hn1 : 1 ≤ n ∧ n ≤ 300 := by rw [hn.out]; exact nS_le S j
            obtain ⟨hn2, hn3⟩ := hn1
            obtain ⟨o, HO⟩ : ∃ o, Hid (o = offL S C.length j) := ⟨_, rfl⟩
            have ho : o ≤ 308 * j := by rw [HO.out]; exact offL_le S C.length j
            obtain ⟨gy, hgy, y0⟩ := HTh.out.oy.at hjk
            obtain ⟨gx, hgx, x0⟩ := HTh.out.ox.at hjk
            rw [ofL_get hjk, ← hn.out] at y0
            rw [atL_get hjk, ← HO.out] at x0
            have HY : Hid (∀ w', Below x2.heap.size x2 w' → w'.cell? ⟨gy, j, none⟩ = some (.int .i64 (n : Int))) := fun w' hb => by rw [hb.cell (World.block_lt_of_cell? x2 _ y0)]; exact y0
            have HX : Hid (∀ w', Below x2.heap.size x2 w' → w'.cell? ⟨gx, j, none⟩ = some (.int .i64 (o : Int))) := fun w' hb => by rw [hb.cell (World.block_lt_of_cell? x2 _ x0)]; exact x0
            clear x0
            obtain ⟨W1, hmk, hbx, hbl, hsz⟩ := own_madeB n (by omega) x2
            obtain ⟨g, hg⟩ : ∃ g, Hid (g = x2.heap.size) := ⟨_, rfl⟩
            rw [← hg.out] at hmk hbx
            obtain ⟨x, hx⟩ : ∃ x, Hid (x = UInt8.ofNat (j + 1)) := ⟨_, rfl⟩
            have HBX : Hid (Box W1 g 5 (cellsB (mix x n 0)).toArray ∧ Below x2.heap.size x2 W1) := ⟨by rw [mix_zero]; exact hbx, hbl⟩
            clear hbx hbl hsz
            rw [hgy, hgx]
            have hx1 : (0 : Int) ≤ (j : Int) := by omega
            have hx2 : (j : Int) < (k : Int) := by omega
            go_wp2_with fail
            clear hmk y0
            have hcv := conv_byte (j + 1) (by omega)
            rw [Int.natCast_add] at hcv
            simp only [Int.cast_ofNat_Int] at hcv
            go_loopw [19] (fun i wq => ∃ t : Nat, t ≤ n ∧ i = .int .i64 (t : Int) ∧ Hid (Box wq g 5 (cellsB (mix x n t)).toArray ∧ Below x2.heap.size x2 wq)) (fun i _ => n - (intOf i).toNat)
            case atStart => exact ⟨0, Nat.zero_le _, rfl, HBX⟩
            case round =>
              obtain ⟨t, ht, rfl, HBX2⟩ := hrel
              clear HBX
              have y1 := HY.out _ HBX2.out.2
              by_cases htn : t < n
              · have c0 := HBX2.out.1.cell t
                have s0 := HBX2.out.1.soft t
                rw [mix_cell _ htn] at c0
                have hx3 : (0 : Int) ≤ (t : Int) := by omega
                have hx4 : (t : Int) < (n : Int) := by omega
                have HB3 : Hid (∀ w', w' = wr.setCell ⟨g, t, none⟩ (.int .u8 ((j : Int) + 1)) → Box w' g 5 (cellsB (mix x n (t + 1))).toArray ∧ Below x2.heap.size x2 w') := by
                  intro w' e
                  have h8 := HBX2.out.1.set t (.int .u8 ((j : Int) + 1))
                  refine ⟨?_, ?_⟩
                  · rw [e]
                    exact Box.eq h8 (mix_next (by rw [hx.out]; exact ofNat_byte (by omega)) htn)
                  · rw [e]
                    exact HBX2.out.2.setCell (Nat.le_of_eq hg.out.symm) _
                go_wp2
                go_roundw
                case rel => exact ⟨t + 1, by omega, by go_num, HB3.out _ rfl⟩
                case measure => simp [intOf]; omega
              · obtain rfl : t = n := by omega
                have x3 := HX.out _ HBX2.out.2
                have HT2 := HTh.out.turn (Chg.of HBX2.out.2) (HTh.out.ar.below HBX2.out.2)
                have HT3 : Hid (Three w wr p ⟨offL S C.length k, bytes, C.take k⟩ ax k cx (atL S C.length k) ay k cy (ofL S k) az nz cz (idL nz)) := HT2
                clear HT2
                have HBS : Hid (BsAt wr (some ⟨g, 0, none⟩) t t (List.replicate t x)) := by
                  have h8 := HBX2.out.1
                  rw [mix_full] at h8
                  have := (own_boxB (B := 0) h8 (Nat.zero_le _) (by simp; omega)).bs
                  unfold Hid
                  simpa using this
                go_wp2_with fail
                refine (put_at HT3.out.ar (o : Int) (in64_lit (by omega)) _ _ _ _ HBS.out).mono ?_
                rintro _ w7 ⟨rfl, a7, c7⟩
                obtain ⟨b', e7, HL7⟩ := ap_put S (cs := C.take k) HLd.out hjk hK
                rw [← hn.out, ← hx.out, ← HO.out] at e7
                rw [e7] at a7 ⊢
                have HT7 : Hid (∃ bytes, Laid S C.length (j + 1) bytes ∧ Three w w7 p ⟨offL S C.length k, bytes, C.take k⟩ ax k cx (atL S C.length k) ay k cy (ofL S k) az nz cz (idL nz)) := ⟨b', HL7, HT3.out.turn c7 a7⟩
                clear a7 c7 e7 HT3 HBS
                go_wp2
                rw [← hgy, ← hgx]
                clear hgy hgx
                go_roundw
                case rel => exact ⟨j + 1, by omega, by go_num, HT7⟩
                case measure => simp [intOf]; omega
          · obtain rfl : j = k := by omega
            go_wp2_with fail
            rename World => x2
            go_loopw [20] (fun i wz => ∃ (t : Nat), t ≤ j ∧ i = .int .i64 (t : Int) ∧ Hid (∃ bytes, Laid S C.length j bytes ∧ Three w wz p ⟨offL S C.length j, bytes, C.take j⟩ ax j cx (atL S C.length j) ay j cy (ofL S j) az nz cz (idL nz))) (fun i _ => j - (intOf i).toNat)
            case atStart => exact ⟨0, Nat.zero_le _, rfl, HR⟩
            case round =>
              obtain ⟨t, ht, rfl, HS3⟩ := hrel
              clear HR
              by_cases htj : t < j
              · rename World => x3
                obtain ⟨bytes, HLd, HTh⟩ : ∃ bytes, Hid (Laid S C.length j bytes) ∧ Hid (Three w x3 p ⟨offL S C.length j, bytes, C.take j⟩ ax j cx (atL S C.length j) ay j cy (ofL S j) az nz cz (idL nz)) := HS3.out
                have HSAME := HS3
                clear HS3
                obtain ⟨n, hn⟩ : ∃ n, Hid (n = nS S t) := ⟨_, rfl⟩
                have hn1 : 1 ≤ n ∧ n ≤ 300 := by rw [hn.out]; exact nS_le S t
                obtain ⟨hn2, hn3⟩ := hn1
                obtain ⟨o, HO⟩ : ∃ o, Hid (o = offL S C.length t) := ⟨_, rfl⟩
                have ho : o ≤ 308 * t := by rw [HO.out]; exact offL_le S C.length t
                obtain ⟨gy, hgy, y0⟩ := HTh.out.oy.at htj
                obtain ⟨gx, hgx, x0⟩ := HTh.out.ox.at htj
                rw [ofL_get htj, ← hn.out] at y0
                rw [atL_get htj, ← HO.out] at x0
                have HY : Hid (∀ w', Below x3.heap.size x3 w' → w'.cell? ⟨gy, t, none⟩ = some (.int .i64 (n : Int))) := fun w' hb => by rw [hb.cell (World.block_lt_of_cell? x3 _ y0)]; exact y0
                obtain ⟨L, hget, hLl, hLt⟩ := ap_get S (cs := C.take j) HLd.out htj hK
                rw [← hn.out] at hget hLl hLt
                rw [← HO.out] at hget
                have HG : Hid ((⟨offL S C.length j, bytes, C.take j⟩ : PA).get (o : Int) (n : Int) = (L, 0) ∧ L.length = n ∧ ∀ s, s < n → L.getD s 0 = UInt8.ofNat (t + 1)) := ⟨hget, hLl, hLt⟩
                clear hget hLl hLt
                rw [hgy, hgx]
                have hx1 : (0 : Int) ≤ (t : Int) := by omega
                have hx2 : (t : Int) < (j : Int) := by omega
                go_upto_region 38 with fail
                go_cut [21, 22] (fun b f wz => ∃ (ab : Option Addr) (cb : Nat), b = .slice ab n cb ∧ f = .int .i64 0 ∧ Hid (BsAt wz ab n cb L) ∧ Hid (Below x3.heap.size x3 wz))
                case first =>
                  go_region_with (go_at_call 13; refine (get_at HTh.out.ar.drew (o : Int) (n : Int) (in64_lit (by omega))).mono ?_; rintro e w6 ⟨ab, lb, cb, rfl, ob, hlb, hb6⟩; rw [HG.out.1] at ob ⊢; have hs6 : n = lb := HG.out.2.1.symm.trans ob.size; subst hs6)
                  all_goals
                    go_wp2_with fail
                    go_meet
                    exact ⟨ab, cb, rfl, rfl, ob.bs, (Below.refl _ _).drew.trans hb6⟩
                case rest =>
                  obtain ⟨ab, cb, rfl, rfl, HBS, HBW⟩ := hcut
                  clear x0 y0
                  have y1 := HY.out wc HBW.out
                  obtain ⟨gb, offb, hab, hbc⟩ := HBS.out.here (by omega)
                  have HBC : Hid (∀ s, s < n → wc.cell? ⟨gb, offb + s, none⟩ = some (.int .u8 ((t : Int) + 1))) := fun s hs => by
                    rw [hbc s hs, HG.out.2.2 s hs, ofNat_byte (by omega)]
                    rfl
                  clear hbc
                  have hcv := conv_byte (t + 1) (by omega)
                  rw [Int.natCast_add] at hcv
                  simp only [Int.cast_ofNat_Int] at hcv
                  have HNEW : Hid (∃ bytes, Laid S C.length j bytes ∧ Three w wc p ⟨offL S C.length j, bytes, C.take j⟩ ax j cx (atL S C.length j) ay j cy (ofL S j) az nz cz (idL nz)) := ⟨bytes, HLd.out, HTh.out.turn (Chg.of HBW.out) (HTh.out.ar.below HBW.out)⟩
                  rw [hab]
                  go_wp2_with fail
                  go_loopw [23] (fun i wq => ∃ s : Nat, s ≤ n ∧ i = .int .i64 (s : Int) ∧ wq = wc) (fun i _ => n - (intOf i).toNat)
                  case atStart => exact ⟨0, Nat.zero_le _, rfl, rfl⟩
                  case round =>
                    obtain ⟨s, hsn, rfl, rfl⟩ := hrel
                    by_cases hlt3 : s < n
                    · have b0 := HBC.out s hlt3
                      have hx3 : (0 : Int) ≤ (s : Int) := by omega
                      have hx4 : (s : Int) < (n : Int) := by omega
                      go_wp2
                      go_roundw
                      case rel => exact ⟨s + 1, by omega, by go_num, by first | rfl | trivial⟩
                      case measure => simp [intOf]; omega
                    · obtain rfl : s = n := by omega
                      go_wp2_with fail
                      rw [← hgy, ← hgx]
                      clear hgy hgx
                      go_roundw
                      case rel => exact ⟨t + 1, by omega, by go_num, HNEW⟩
                      case measure => simp [intOf]; omega
              · go_wp2_with fail
                rename World => x3
                go_loopw [24] (fun i wz => ∃ (t : Nat), t ≤ nz ∧ i = .int .i64 (t : Int) ∧ Hid (∃ bytes, Laid S C.length j bytes ∧ Three w wz p ⟨offL S C.length j, bytes, C.take j⟩ ax j cx (atL S C.length j) ay j cy (ofL S j) az nz cz (idL nz))) (fun i _ => nz - (intOf i).toNat)
                case atStart => exact ⟨0, Nat.zero_le _, rfl, HS3⟩
                case round =>
                  obtain ⟨t2, ht2, rfl, HS4⟩ := hrel
                  clear HS3
                  by_cases htn : t2 < nz
                  · obtain ⟨bytes, HLd, HTh⟩ : ∃ bytes, Hid (Laid S C.length j bytes) ∧ Hid (Three w wr p ⟨offL S C.length j, bytes, C.take j⟩ ax j cx (atL S C.length j) ay j cy (ofL S j) az nz cz (idL nz)) := HS4.out
                    obtain ⟨gz, hgz, z0⟩ := HTh.out.oz.at htn
                    rw [idL_get htn] at z0
                    have hm := HNZ.out
                    have ht3 : t2 < j := by omega
                    have ht4 : t2 < len1 := by omega
                    have HT4 : Hid (t2 < j ∧ t2 < C.length) := ⟨ht3, by rw [HZ.out]; exact ht4⟩
                    obtain ⟨b1, off1, hla1, hlc1⟩ := HC.out.here (by omega)
                    have y9 := hlc1 t2 ht4
                    obtain ⟨u, hu⟩ : ∃ u, Hid (u = C.getD t2 0) := ⟨_, rfl⟩
                    rw [← hu.out] at y9
                    have y0 : wr.cell? ⟨b1, off1 + t2, none⟩ = some (.int .i64 u) := by rw [HTh.out.base.cell (World.block_lt_of_cell? w _ y9)]; exact y9
                    clear hlc1 y9 hm
                    rw [hgz, hla1]
                    have hx1 : (0 : Int) ≤ (t2 : Int) := by omega
                    have hx2 : (t2 : Int) < (nz : Int) := by omega
                    have hx3 : (t2 : Int) < (len1 : Int) := by omega
                    go_wp2_with fail
                    refine (load_at HTh.out.ar (t2 : Int)).mono ?_
                    rintro _ w7 ⟨rfl, hw⟩
                    obtain rfl := hw.symm
                    clear hw
                    rw [ap_load S HT4.out.1 HT4.out.2, ← hu.out]
                    go_wp2
                    rw [← hgz]
                    exact ⟨⟨t2 + 1, by omega, by go_num, HS4⟩, by simp [intOf]; omega⟩
                  · go_wp2
                    go_returns
                    obtain ⟨bytes, _, h9⟩ := HS4.out
                    exact ⟨rfl, h9.base⟩
end Go.Proofs.Ytedddgkdpeielaa
