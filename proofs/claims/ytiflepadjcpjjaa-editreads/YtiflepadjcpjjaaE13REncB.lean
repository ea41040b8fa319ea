/- The contract of the document's own Encode: the walk. -/
import Derived.Test.YtiflepadjcpjjaaQa13
namespace Go.Proofs.Ytiflepadjcpjjaa
open Go.RowKit
set_option linter.unusedVariables false
set_option linter.unusedSimpArgs false
set_option maxRecDepth 100000 in
set_option maxHeartbeats 4000000 in
theorem reenc_any (x : PE) (s : SE) (w : World) (h : EdAt w x s) (hw : WfE x) :
    Calls Try.prog 10 #[.agg #[.int .u64 (x.log : Int), .int .u64 (x.next : Int), .int .u64 (x.last : Int), .slice s.a x.dels.length s.c, .slice s.a' x.adds.length s.c']] w fun e w' => ∃ a' c', e = .returned (.tuple #[.slice a' x.lay.length c', .int .i64 ((x.err : Nat) : Int)]) ∧ OwnB w' w.heap.size a' x.lay.length c' x.lay ∧ Below w.heap.size w w' := by
  obtain ⟨W1, e1, HW⟩ : ∃ W1, W1 = w.alloc (.cells (eA x s) TE) ∧ Hid (Below w.heap.size w W1 ∧ Box W1 w.heap.size TE (eA x s) ∧ EdAt W1 x s ∧ w.heap.size ≤ W1.heap.size) := ⟨_, rfl, (Below.refl _ _).alloc (Nat.le_refl _) _, Box.new _ _ _, h.below ((Below.refl _ _).alloc (Nat.le_refl _) _), by simp⟩
  have HC : Hid (∀ W, W = w.alloc (.cells (eA x s) TE) → Calls Try.prog 13 #[.agg #[.int .u64 (x.log : Int), .int .u64 (x.next : Int), .int .u64 (x.last : Int), .slice s.a x.dels.length s.c, .slice s.a' x.adds.length s.c']] W fun e w' => e = .returned (.int .i64 ((x.err : Nat) : Int)) ∧ Below W1.heap.size W1 w') := by
    rintro W rfl
    rw [← e1]
    exact recheck_any x s W1 HW.out.2.2.1 hw
  clear h hw e1
  by_cases her : x.err = 0
  · have HL : Hid (x.lay = x.enc ∧ x.err = 0) := ⟨PE.lay_yes her, her⟩
    obtain ⟨hd20, ha100, hlog, hnext, hlast, hde, hae⟩ := PE.err_zero her
    have HD : Hid ((∀ g ∈ x.dels, g.err = 0) ∧ ∀ f ∈ x.adds, f.err = 0) := ⟨hde, hae⟩
    rw [her] at HC
    rw [her]
    clear her hde hae
    have hm := HW.out.2.2.1.gs.row.max
    have hl := HW.out.2.2.1.gs.row.le
    have hm' := HW.out.2.2.1.fs.row.max
    have hl' := HW.out.2.2.1.fs.row.le
    unfold maxLen at hm hm'
    go_enter Try.func10, Try.ntmps10
    go_wp2_with fail
    refine (HC.out _ rfl).mono ?_
    rintro _ v0 ⟨rfl, hb0⟩
    have R : Hid (Below W1.heap.size W1 v0) := hb0
    obtain ⟨c0, c1, c2, c3, c4⟩ := (HW.out.2.1.kept (hb0.block _ HW.out.2.1.lt)).five
    clear hb0 HC
    go_wp2_with fail
    refine (rput_nil x.log (by omega) _).mono ?_
    rintro _ w1 ⟨a1, k1, rfl, ho1, hb1⟩
    have R1 : Hid (RE W1 w1 a1 (uvEnc x.log).length k1 (uvEnc x.log)) := ⟨ho1.mono R.out.size, R.out.trans (hb1.mono R.out.size)⟩
    have hn1 := (uvEnc_length x.log).2
    obtain ⟨B1, hB1⟩ : ∃ B, B = uvEnc x.log := ⟨_, rfl⟩
    have HB1 : Hid (B1 = uvEnc x.log) := hB1
    rw [← hB1] at R1 hn1 ⊢
    clear ho1 hb1 hB1 R
    generalize B1.length = n1 at R1 hn1 ⊢
    clear c0 c1 c2 c3 c4
    obtain ⟨c0, c1, c2, c3, c4⟩ := (HW.out.2.1.kept (R1.out.base.block _ HW.out.2.1.lt)).five
    go_wp2_with fail
    refine (rput_nil x.next (by omega) _).mono ?_
    rintro _ v2 ⟨b2, l2, rfl, ho2, hb2⟩
    have Q2 : Hid (RE W1 v2 a1 n1 k1 B1 ∧ BsAt v2 b2 (uvEnc x.next).length l2 (uvEnc x.next) ∧ W1.heap.size ≤ v2.heap.size) := ⟨R1.out.call hb2, ho2.bs, (R1.out.call hb2).base.size⟩
    clear ho2 hb2
    have hu2 := uvEnc_length x.next
    go_wp2_with (first | (at_builtin; refine wpList_app _ rfl _ _ rfl W1.heap.size a1 n1 k1 B1 rfl Q2.out.1.own b2 (uvEnc x.next).length l2 (uvEnc x.next) rfl Q2.out.2.1 (by omega) Q2.out.2.2 ?_))
    intro a2 k2 w2 ho2 hb2 hg2
    obtain ⟨B2, hB2⟩ : ∃ B, B = B1 ++ (uvEnc x.next) := ⟨_, rfl⟩
    have HB2 : Hid (B2 = B1 ++ (uvEnc x.next)) := hB2
    rw [← hB2] at ho2
    have hn2 : n1 + (uvEnc x.next).length ≤ 20 := by omega
    have R2 : Hid (RE W1 w2 a2 (n1 + (uvEnc x.next).length) k2 B2) := ⟨ho2, Q2.out.1.base.trans hb2⟩
    clear ho2 hb2 hg2 hB2
    generalize n1 + (uvEnc x.next).length = n2 at hn2 R2 ⊢
    clear Q2 hu2
    clear c0 c1 c2 c3 c4
    obtain ⟨c0, c1, c2, c3, c4⟩ := (HW.out.2.1.kept (R2.out.base.block _ HW.out.2.1.lt)).five
    go_wp2_with fail
    refine (rput_nil x.last (by omega) _).mono ?_
    rintro _ v3 ⟨b3, l3, rfl, ho3, hb3⟩
    have Q3 : Hid (RE W1 v3 a2 n2 k2 B2 ∧ BsAt v3 b3 (uvEnc x.last).length l3 (uvEnc x.last) ∧ W1.heap.size ≤ v3.heap.size) := ⟨R2.out.call hb3, ho3.bs, (R2.out.call hb3).base.size⟩
    clear ho3 hb3
    have hu3 := uvEnc_length x.last
    go_wp2_with (first | (at_builtin; refine wpList_app _ rfl _ _ rfl W1.heap.size a2 n2 k2 B2 rfl Q3.out.1.own b3 (uvEnc x.last).length l3 (uvEnc x.last) rfl Q3.out.2.1 (by omega) Q3.out.2.2 ?_))
    intro a3 k3 w3 ho3 hb3 hg3
    obtain ⟨B3, hB3⟩ : ∃ B, B = B2 ++ (uvEnc x.last) := ⟨_, rfl⟩
    have HB3 : Hid (B3 = B2 ++ (uvEnc x.last)) := hB3
    rw [← hB3] at ho3
    have hn3 : n2 + (uvEnc x.last).length ≤ 30 := by omega
    have R3 : Hid (RE W1 w3 a3 (n2 + (uvEnc x.last).length) k3 B3) := ⟨ho3, Q3.out.1.base.trans hb3⟩
    clear ho3 hb3 hg3 hB3
    generalize n2 + (uvEnc x.last).length = n3 at hn3 R3 ⊢
    clear Q3 hu3
    clear c0 c1 c2 c3 c4
    obtain ⟨c0, c1, c2, c3, c4⟩ := (HW.out.2.1.kept (R3.out.base.block _ HW.out.2.1.lt)).five
    go_wp2_with fail
    refine (rput_nil x.dels.length (by omega) _).mono ?_
    rintro _ v4 ⟨b4, l4, rfl, ho4, hb4⟩
    have Q4 : Hid (RE W1 v4 a3 n3 k3 B3 ∧ BsAt v4 b4 (uvEnc x.dels.length).length l4 (uvEnc x.dels.length) ∧ W1.heap.size ≤ v4.heap.size) := ⟨R3.out.call hb4, ho4.bs, (R3.out.call hb4).base.size⟩
    clear ho4 hb4
    have hu4 := uvEnc_length x.dels.length
    go_wp2_with (first | (at_builtin; refine wpList_app _ rfl _ _ rfl W1.heap.size a3 n3 k3 B3 rfl Q4.out.1.own b4 (uvEnc x.dels.length).length l4 (uvEnc x.dels.length) rfl Q4.out.2.1 (by omega) Q4.out.2.2 ?_))
    intro a4 k4 w4 ho4 hb4 hg4
    obtain ⟨B4, hB4⟩ : ∃ B, B = B3 ++ (uvEnc x.dels.length) := ⟨_, rfl⟩
    have HB4 : Hid (B4 = B3 ++ (uvEnc x.dels.length)) := hB4
    rw [← hB4] at ho4
    have hn4 : n3 + (uvEnc x.dels.length).length ≤ 40 := by omega
    have R4 : Hid (RE W1 w4 a4 (n3 + (uvEnc x.dels.length).length) k4 B4) := ⟨ho4, Q4.out.1.base.trans hb4⟩
    clear ho4 hb4 hg4 hB4
    generalize n3 + (uvEnc x.dels.length).length = n4 at hn4 R4 ⊢
    clear Q4 hu4
    go_wp2_with fail
    go_loopw [5, 6] (fun o i wr => ∃ (k : Nat) (a' : Option Addr) (n' c' : Nat), k ≤ x.dels.length ∧ i = .int .i64 (k : Int) ∧ o = .slice a' n' c' ∧ n' ≤ 40 + 20 * k ∧ Hid (RE W1 wr a' n' c' (B4 ++ (x.dels.take k).flatMap PG.enc))) (fun _ i _ => x.dels.length - (intOf i).toNat)
    case atStart => exact ⟨0, a4, n4, k4, Nat.zero_le _, rfl, rfl, by omega, by show RE _ _ _ _ _ _; simpa using R4.out⟩
    case round =>
      obtain ⟨k, a5, n5, k5, hk, rfl, rfl, hn5, HR5⟩ := hrel
      clear c0 c1 c2 c3 c4
      obtain ⟨c0, c1, c2, c3, c4⟩ := (HW.out.2.1.kept (HR5.out.base.block _ HW.out.2.1.lt)).five
      by_cases hkn : k < x.dels.length
      · obtain ⟨b, o, hidx, hlt, hcs⟩ := HW.out.2.2.1.gs.at hkn
        have HCS : Hid (∀ W : World, Below W1.heap.size W1 W → W.cell? ⟨b, o, none⟩ = some (.int .i64 (x.dels[k]).level) ∧ W.cell? ⟨b, o + 1, none⟩ = some (.int .u64 ((x.dels[k]).num : Int))) := hcs
        have hge := HD.out.1 x.dels[k] (List.getElem_mem hkn)
        have HT : Hid ((x.dels.take (k + 1)).flatMap PG.enc = (x.dels.take k).flatMap PG.enc ++ (x.dels[k]).enc) := take_flat hkn
        clear hcs
        generalize x.dels[k] = g at HCS hge HT
        obtain ⟨g1, g2, g3, g4⟩ := gErr_zero hge
        obtain ⟨lv, hlv⟩ : ∃ lv : Nat, g.level = (lv : Int) := ⟨g.level.toNat, by omega⟩
        have HG : Hid (g.enc = uvEnc lv ++ uvEnc g.num) := by
          show g.enc = _
          unfold PG.enc
          rw [hlv]
          simp
        rw [hlv] at HCS g1 g2
        clear hge hlv
        obtain ⟨B5, hB5⟩ : ∃ B, B = B4 ++ (x.dels.take k).flatMap PG.enc := ⟨_, rfl⟩
        have HB5 : Hid (B5 = B4 ++ (x.dels.take k).flatMap PG.enc) := hB5
        have R5 : Hid (RE W1 wr a5 n5 k5 B5) := by rw [hB5]; exact HR5.out
        clear hB5 HR5
        obtain ⟨d0, d1⟩ := HCS.out _ R5.out.base
        go_wp2_with fail
        refine (rput_nil lv (by omega) _).mono ?_
        rintro _ v6 ⟨b6, l6, rfl, ho6, hb6⟩
        have Q6 : Hid (RE W1 v6 a5 n5 k5 B5 ∧ BsAt v6 b6 (uvEnc lv).length l6 (uvEnc lv) ∧ W1.heap.size ≤ v6.heap.size) := ⟨R5.out.call hb6, ho6.bs, (R5.out.call hb6).base.size⟩
        clear ho6 hb6
        have hu6 := uvEnc_length lv
        go_wp2_with (first | (at_builtin; refine wpList_app _ rfl _ _ rfl W1.heap.size a5 n5 k5 B5 rfl Q6.out.1.own b6 (uvEnc lv).length l6 (uvEnc lv) rfl Q6.out.2.1 (by omega) Q6.out.2.2 ?_))
        intro a6 k6 w6 ho6 hb6 hg6
        obtain ⟨B6, hB6⟩ : ∃ B, B = B5 ++ (uvEnc lv) := ⟨_, rfl⟩
        have HB6 : Hid (B6 = B5 ++ (uvEnc lv)) := hB6
        rw [← hB6] at ho6
        have hn6 : n5 + (uvEnc lv).length ≤ 40 + 20 * k + 10 := by omega
        have R6 : Hid (RE W1 w6 a6 (n5 + (uvEnc lv).length) k6 B6) := ⟨ho6, Q6.out.1.base.trans hb6⟩
        clear ho6 hb6 hg6 hB6
        generalize n5 + (uvEnc lv).length = n6 at hn6 R6 ⊢
        clear Q6 hu6
        clear d0 d1
        obtain ⟨d0, d1⟩ := HCS.out _ R6.out.base
        clear c0 c1 c2 c3 c4
        obtain ⟨c0, c1, c2, c3, c4⟩ := (HW.out.2.1.kept (R6.out.base.block _ HW.out.2.1.lt)).five
        go_wp2_with fail
        refine (rput_nil g.num (by omega) _).mono ?_
        rintro _ v7 ⟨b7, l7, rfl, ho7, hb7⟩
        have Q7 : Hid (RE W1 v7 a6 n6 k6 B6 ∧ BsAt v7 b7 (uvEnc g.num).length l7 (uvEnc g.num) ∧ W1.heap.size ≤ v7.heap.size) := ⟨R6.out.call hb7, ho7.bs, (R6.out.call hb7).base.size⟩
        clear ho7 hb7
        have hu7 := uvEnc_length g.num
        go_wp2_with (first | (at_builtin; refine wpList_app _ rfl _ _ rfl W1.heap.size a6 n6 k6 B6 rfl Q7.out.1.own b7 (uvEnc g.num).length l7 (uvEnc g.num) rfl Q7.out.2.1 (by omega) Q7.out.2.2 ?_))
        intro a7 k7 w7 ho7 hb7 hg7
        obtain ⟨B7, hB7⟩ : ∃ B, B = B6 ++ (uvEnc g.num) := ⟨_, rfl⟩
        have HB7 : Hid (B7 = B6 ++ (uvEnc g.num)) := hB7
        rw [← hB7] at ho7
        have hn7 : n6 + (uvEnc g.num).length ≤ 40 + 20 * k + 20 := by omega
        have R7 : Hid (RE W1 w7 a7 (n6 + (uvEnc g.num).length) k7 B7) := ⟨ho7, Q7.out.1.base.trans hb7⟩
        clear ho7 hb7 hg7 hB7
        generalize n6 + (uvEnc g.num).length = n7 at hn7 R7 ⊢
        clear Q7 hu7
        go_wp2
        go_roundw
        case rel =>
          refine ⟨k + 1, a7, n7, k7, hkn, by go_num, rfl, by omega, ?_⟩
          have := R7.out
          rw [HB7.out, HB6.out, HB5.out, List.append_assoc, List.append_assoc, ← HG.out, ← HT.out] at this
          exact this
        case measure => simp only [intOf]; omega
      · have R5 : Hid (RE W1 wr a5 n5 k5 (B4 ++ x.dels.flatMap PG.enc)) := by
          have := HR5.out
          rw [List.take_of_length_le (by omega)] at this
          exact this
        clear HR5
        obtain ⟨B5, hB5⟩ : ∃ B, B = B4 ++ x.dels.flatMap PG.enc := ⟨_, rfl⟩
        have HB5 : Hid (B5 = B4 ++ x.dels.flatMap PG.enc) := hB5
        rw [← hB5] at R5
        clear hB5
        go_wp2_with fail
        refine (rput_nil x.adds.length (by omega) _).mono ?_
        rintro _ v6 ⟨b6, l6, rfl, ho6, hb6⟩
        have Q6 : Hid (RE W1 v6 a5 n5 k5 B5 ∧ BsAt v6 b6 (uvEnc x.adds.length).length l6 (uvEnc x.adds.length) ∧ W1.heap.size ≤ v6.heap.size) := ⟨R5.out.call hb6, ho6.bs, (R5.out.call hb6).base.size⟩
        clear ho6 hb6
        have hu6 := uvEnc_length x.adds.length
        go_wp2_with (first | (at_builtin; refine wpList_app _ rfl _ _ rfl W1.heap.size a5 n5 k5 B5 rfl Q6.out.1.own b6 (uvEnc x.adds.length).length l6 (uvEnc x.adds.length) rfl Q6.out.2.1 (by omega) Q6.out.2.2 ?_))
        intro a6 k6 w6 ho6 hb6 hg6
        obtain ⟨B6, hB6⟩ : ∃ B, B = B5 ++ (uvEnc x.adds.length) := ⟨_, rfl⟩
        have HB6 : Hid (B6 = B5 ++ (uvEnc x.adds.length)) := hB6
        rw [← hB6] at ho6
        have hn6 : n5 + (uvEnc x.adds.length).length ≤ 400050 := by omega
        have R6 : Hid (RE W1 w6 a6 (n5 + (uvEnc x.adds.length).length) k6 B6) := ⟨ho6, Q6.out.1.base.trans hb6⟩
        clear ho6 hb6 hg6 hB6
        generalize n5 + (uvEnc x.adds.length).length = n6 at hn6 R6 ⊢
        clear Q6 hu6
        go_wp2_with fail
        go_loopw [5, 7] (fun o i wr => ∃ (k : Nat) (a' : Option Addr) (n' c' : Nat), k ≤ x.adds.length ∧ i = .int .i64 (k : Int) ∧ o = .slice a' n' c' ∧ n' ≤ 400050 + 194 * k ∧ Hid (RE W1 wr a' n' c' (B6 ++ (x.adds.take k).flatMap PF.enc))) (fun _ i _ => x.adds.length - (intOf i).toNat)
        case atStart => exact ⟨0, a6, n6, k6, Nat.zero_le _, rfl, rfl, by omega, by show RE _ _ _ _ _ _; simpa using R6.out⟩
        case round =>
          obtain ⟨j, a7, n7, k7, hj, rfl, rfl, hn7, HR7⟩ := hrel
          clear c0 c1 c2 c3 c4
          obtain ⟨c0, c1, c2, c3, c4⟩ := (HW.out.2.1.kept (HR7.out.base.block _ HW.out.2.1.lt)).five
          by_cases hjn : j < x.adds.length
          · obtain ⟨b, o, hidx, hlt, hcs⟩ := HW.out.2.2.1.fs.at hjn
            obtain ⟨d0, d1, d2, d3, d4, d5, d6, d7, d8⟩ := hcs wr HR7.out.base
            have hfe := HD.out.2 x.adds[j] (List.getElem_mem hjn)
            have HT : Hid ((x.adds.take (j + 1)).flatMap PF.enc = (x.adds.take j).flatMap PF.enc ++ (x.adds[j]).enc) := take_flat hjn
            clear hcs
            generalize x.adds[j] = f at d0 d1 d2 d3 d4 d5 d6 d7 d8 hfe HT
            obtain ⟨hg0, hs1, hs2, hks, hkl, _⟩ := PF.err_zero hfe
            obtain ⟨g1, g2, g3, g4⟩ := gErr_zero hg0
            obtain ⟨lv, hlv⟩ : ∃ lv : Nat, f.level = (lv : Int) := ⟨f.level.toNat, by omega⟩
            obtain ⟨sz, hsz⟩ : ∃ sz : Nat, f.size = (sz : Int) := ⟨f.size.toNat, by omega⟩
            have HG : Hid (f.enc = uvEnc lv ++ (uvEnc f.num ++ (uvEnc sz ++ (txtPut f.small.enc ++ txtPut f.large.enc)))) := by
              show f.enc = _
              unfold PF.enc
              rw [hlv, hsz]
              simp
            rw [hlv] at d0 g1 g2
            rw [hsz] at d2 hs1 hs2
            have HK : Hid (f.small.err = 0 ∧ f.large.err = 0) := ⟨hks, hkl⟩
            have hp1 := enc_size hks
            have hp2 := enc_size hkl
            have HQ : Hid (f.small.enc.length ≤ 1000 ∧ f.large.enc.length ≤ 1000) := by
              have h1 := enc_len hks
              have h2 := err_le hks
              have h3 := enc_len hkl
              have h4 := err_le hkl
              exact ⟨by omega, by omega⟩
            clear hfe hg0 hlv hsz hks hkl
            obtain ⟨B7, hB7⟩ : ∃ B, B = B6 ++ (x.adds.take j).flatMap PF.enc := ⟨_, rfl⟩
            have HB7 : Hid (B7 = B6 ++ (x.adds.take j).flatMap PF.enc) := hB7
            have R7' : Hid (RE W1 wr a7 n7 k7 B7) := by rw [hB7]; exact HR7.out
            clear hB7 HR7
            have hfb : wr.heap.size = wr.heap.size := rfl
            have R7 : Hid (RE W1 (wr.alloc (.cells #[.int .i64 (lv : Int), .int .u64 (f.num : Int), .int .i64 (sz : Int), .string f.small.user, .int .u64 (f.small.seq : Int), .int .i64 f.small.kind, .string f.large.user, .int .u64 (f.large.seq : Int), .int .i64 f.large.kind] 44)) a7 n7 k7 B7) := R7'.out.call ((Below.refl _ _).alloc (Nat.le_refl _) _)
            have HX : Hid (Box (wr.alloc (.cells #[.int .i64 (lv : Int), .int .u64 (f.num : Int), .int .i64 (sz : Int), .string f.small.user, .int .u64 (f.small.seq : Int), .int .i64 f.small.kind, .string f.large.user, .int .u64 (f.large.seq : Int), .int .i64 f.large.kind] 44)) wr.heap.size TF #[.int .i64 (lv : Int), .int .u64 (f.num : Int), .int .i64 (sz : Int), .string f.small.user, .int .u64 (f.small.seq : Int), .int .i64 f.small.kind, .string f.large.user, .int .u64 (f.large.seq : Int), .int .i64 f.large.kind]) := Box.new _ _ _
            generalize hfbn : wr.heap.size = fb at HX
            have HFB : Hid (wr.heap.size = fb) := hfbn
            clear R7' hfb
            rw [← hfbn] at HX
            have hfx := HX
            clear hfx
            clear hfbn
            go_wp2_with fail
            refine (rput_nil lv (by omega) _).mono ?_
            rintro _ v8 ⟨b8, l8, rfl, ho8, hb8⟩
            have Q8 : Hid (RE W1 v8 a7 n7 k7 B7 ∧ BsAt v8 b8 (uvEnc lv).length l8 (uvEnc lv) ∧ W1.heap.size ≤ v8.heap.size) := ⟨R7.out.call hb8, ho8.bs, (R7.out.call hb8).base.size⟩
            have HXc : Hid (Box v8 wr.heap.size TF #[.int .i64 (lv : Int), .int .u64 (f.num : Int), .int .i64 (sz : Int), .string f.small.user, .int .u64 (f.small.seq : Int), .int .i64 f.small.kind, .string f.large.user, .int .u64 (f.large.seq : Int), .int .i64 f.large.kind]) := HX.out.kept (hb8.block _ HX.out.lt)
            clear ho8 hb8
            have hu8 := uvEnc_length lv
            replace HX := HXc
            go_wp2_with (first | (at_builtin; refine wpList_app _ rfl _ _ rfl W1.heap.size a7 n7 k7 B7 rfl Q8.out.1.own b8 (uvEnc lv).length l8 (uvEnc lv) rfl Q8.out.2.1 (by omega) Q8.out.2.2 ?_))
            intro a8 k8 w8 ho8 hb8 hg8
            obtain ⟨B8, hB8⟩ : ∃ B, B = B7 ++ (uvEnc lv) := ⟨_, rfl⟩
            have HB8 : Hid (B8 = B7 ++ (uvEnc lv)) := hB8
            rw [← hB8] at ho8
            have hn8 : n7 + (uvEnc lv).length ≤ 400050 + 194 * j + 10 := by omega
            have R8 : Hid (RE W1 w8 a8 (n7 + (uvEnc lv).length) k8 B8) := ⟨ho8, Q8.out.1.base.trans hb8⟩
            have HXc2 : Hid (Box w8 wr.heap.size TF #[.int .i64 (lv : Int), .int .u64 (f.num : Int), .int .i64 (sz : Int), .string f.small.user, .int .u64 (f.small.seq : Int), .int .i64 f.small.kind, .string f.large.user, .int .u64 (f.large.seq : Int), .int .i64 f.large.kind]) := HX.out.grown Q8.out.1.own hg8 (by decide)
            replace HX := HXc2
            clear ho8 hb8 hg8 hB8
            generalize n7 + (uvEnc lv).length = n8 at hn8 R8 ⊢
            clear Q8 hu8
            clear d0 d1 d2 d3 d4 d5 d6 d7 d8
            have d0 : w8.cell? ⟨wr.heap.size, 0, none⟩ = some (.int .i64 (lv : Int)) := HX.out.cell 0
            have d1 : w8.cell? ⟨wr.heap.size, 1, none⟩ = some (.int .u64 (f.num : Int)) := HX.out.cell 1
            have d2 : w8.cell? ⟨wr.heap.size, 2, none⟩ = some (.int .i64 (sz : Int)) := HX.out.cell 2
            have d3 : w8.cell? ⟨wr.heap.size, 3, none⟩ = some (.string f.small.user) := HX.out.cell 3
            have d4 : w8.cell? ⟨wr.heap.size, 4, none⟩ = some (.int .u64 (f.small.seq : Int)) := HX.out.cell 4
            have d5 : w8.cell? ⟨wr.heap.size, 5, none⟩ = some (.int .i64 f.small.kind) := HX.out.cell 5
            have d6 : w8.cell? ⟨wr.heap.size, 6, none⟩ = some (.string f.large.user) := HX.out.cell 6
            have d7 : w8.cell? ⟨wr.heap.size, 7, none⟩ = some (.int .u64 (f.large.seq : Int)) := HX.out.cell 7
            have d8 : w8.cell? ⟨wr.heap.size, 8, none⟩ = some (.int .i64 f.large.kind) := HX.out.cell 8
            go_wp2_with fail
            refine (rput_nil f.num (by omega) _).mono ?_
            rintro _ v9 ⟨b9, l9, rfl, ho9, hb9⟩
            have Q9 : Hid (RE W1 v9 a8 n8 k8 B8 ∧ BsAt v9 b9 (uvEnc f.num).length l9 (uvEnc f.num) ∧ W1.heap.size ≤ v9.heap.size) := ⟨R8.out.call hb9, ho9.bs, (R8.out.call hb9).base.size⟩
            have HXc : Hid (Box v9 wr.heap.size TF #[.int .i64 (lv : Int), .int .u64 (f.num : Int), .int .i64 (sz : Int), .string f.small.user, .int .u64 (f.small.seq : Int), .int .i64 f.small.kind, .string f.large.user, .int .u64 (f.large.seq : Int), .int .i64 f.large.kind]) := HX.out.kept (hb9.block _ HX.out.lt)
            clear ho9 hb9
            have hu9 := uvEnc_length f.num
            replace HX := HXc
            go_wp2_with (first | (at_builtin; refine wpList_app _ rfl _ _ rfl W1.heap.size a8 n8 k8 B8 rfl Q9.out.1.own b9 (uvEnc f.num).length l9 (uvEnc f.num) rfl Q9.out.2.1 (by omega) Q9.out.2.2 ?_))
            intro a9 k9 w9 ho9 hb9 hg9
            obtain ⟨B9, hB9⟩ : ∃ B, B = B8 ++ (uvEnc f.num) := ⟨_, rfl⟩
            have HB9 : Hid (B9 = B8 ++ (uvEnc f.num)) := hB9
            rw [← hB9] at ho9
            have hn9 : n8 + (uvEnc f.num).length ≤ 400050 + 194 * j + 20 := by omega
            have R9 : Hid (RE W1 w9 a9 (n8 + (uvEnc f.num).length) k9 B9) := ⟨ho9, Q9.out.1.base.trans hb9⟩
            have HXc2 : Hid (Box w9 wr.heap.size TF #[.int .i64 (lv : Int), .int .u64 (f.num : Int), .int .i64 (sz : Int), .string f.small.user, .int .u64 (f.small.seq : Int), .int .i64 f.small.kind, .string f.large.user, .int .u64 (f.large.seq : Int), .int .i64 f.large.kind]) := HX.out.grown Q9.out.1.own hg9 (by decide)
            replace HX := HXc2
            clear ho9 hb9 hg9 hB9
            generalize n8 + (uvEnc f.num).length = n9 at hn9 R9 ⊢
            clear Q9 hu9
            clear d0 d1 d2 d3 d4 d5 d6 d7 d8
            have d0 : w9.cell? ⟨wr.heap.size, 0, none⟩ = some (.int .i64 (lv : Int)) := HX.out.cell 0
            have d1 : w9.cell? ⟨wr.heap.size, 1, none⟩ = some (.int .u64 (f.num : Int)) := HX.out.cell 1
            have d2 : w9.cell? ⟨wr.heap.size, 2, none⟩ = some (.int .i64 (sz : Int)) := HX.out.cell 2
            have d3 : w9.cell? ⟨wr.heap.size, 3, none⟩ = some (.string f.small.user) := HX.out.cell 3
            have d4 : w9.cell? ⟨wr.heap.size, 4, none⟩ = some (.int .u64 (f.small.seq : Int)) := HX.out.cell 4
            have d5 : w9.cell? ⟨wr.heap.size, 5, none⟩ = some (.int .i64 f.small.kind) := HX.out.cell 5
            have d6 : w9.cell? ⟨wr.heap.size, 6, none⟩ = some (.string f.large.user) := HX.out.cell 6
            have d7 : w9.cell? ⟨wr.heap.size, 7, none⟩ = some (.int .u64 (f.large.seq : Int)) := HX.out.cell 7
            have d8 : w9.cell? ⟨wr.heap.size, 8, none⟩ = some (.int .i64 f.large.kind) := HX.out.cell 8
            go_wp2_with fail
            refine (rput_nil sz (by omega) _).mono ?_
            rintro _ v10 ⟨b10, l10, rfl, ho10, hb10⟩
            have Q10 : Hid (RE W1 v10 a9 n9 k9 B9 ∧ BsAt v10 b10 (uvEnc sz).length l10 (uvEnc sz) ∧ W1.heap.size ≤ v10.heap.size) := ⟨R9.out.call hb10, ho10.bs, (R9.out.call hb10).base.size⟩
            have HXc : Hid (Box v10 wr.heap.size TF #[.int .i64 (lv : Int), .int .u64 (f.num : Int), .int .i64 (sz : Int), .string f.small.user, .int .u64 (f.small.seq : Int), .int .i64 f.small.kind, .string f.large.user, .int .u64 (f.large.seq : Int), .int .i64 f.large.kind]) := HX.out.kept (hb10.block _ HX.out.lt)
            clear ho10 hb10
            have hu10 := uvEnc_length sz
            replace HX := HXc
            go_wp2_with (first | (at_builtin; refine wpList_app _ rfl _ _ rfl W1.heap.size a9 n9 k9 B9 rfl Q10.out.1.own b10 (uvEnc sz).length l10 (uvEnc sz) rfl Q10.out.2.1 (by omega) Q10.out.2.2 ?_))
            intro a10 k10 w10 ho10 hb10 hg10
            obtain ⟨B10, hB10⟩ : ∃ B, B = B9 ++ (uvEnc sz) := ⟨_, rfl⟩
            have HB10 : Hid (B10 = B9 ++ (uvEnc sz)) := hB10
            rw [← hB10] at ho10
            have hn10 : n9 + (uvEnc sz).length ≤ 400050 + 194 * j + 30 := by omega
            have R10 : Hid (RE W1 w10 a10 (n9 + (uvEnc sz).length) k10 B10) := ⟨ho10, Q10.out.1.base.trans hb10⟩
            have HXc2 : Hid (Box w10 wr.heap.size TF #[.int .i64 (lv : Int), .int .u64 (f.num : Int), .int .i64 (sz : Int), .string f.small.user, .int .u64 (f.small.seq : Int), .int .i64 f.small.kind, .string f.large.user, .int .u64 (f.large.seq : Int), .int .i64 f.large.kind]) := HX.out.grown Q10.out.1.own hg10 (by decide)
            replace HX := HXc2
            clear ho10 hb10 hg10 hB10
            generalize n9 + (uvEnc sz).length = n10 at hn10 R10 ⊢
            clear Q10 hu10
            clear d0 d1 d2 d3 d4 d5 d6 d7 d8
            have d0 : w10.cell? ⟨wr.heap.size, 0, none⟩ = some (.int .i64 (lv : Int)) := HX.out.cell 0
            have d1 : w10.cell? ⟨wr.heap.size, 1, none⟩ = some (.int .u64 (f.num : Int)) := HX.out.cell 1
            have d2 : w10.cell? ⟨wr.heap.size, 2, none⟩ = some (.int .i64 (sz : Int)) := HX.out.cell 2
            have d3 : w10.cell? ⟨wr.heap.size, 3, none⟩ = some (.string f.small.user) := HX.out.cell 3
            have d4 : w10.cell? ⟨wr.heap.size, 4, none⟩ = some (.int .u64 (f.small.seq : Int)) := HX.out.cell 4
            have d5 : w10.cell? ⟨wr.heap.size, 5, none⟩ = some (.int .i64 f.small.kind) := HX.out.cell 5
            have d6 : w10.cell? ⟨wr.heap.size, 6, none⟩ = some (.string f.large.user) := HX.out.cell 6
            have d7 : w10.cell? ⟨wr.heap.size, 7, none⟩ = some (.int .u64 (f.large.seq : Int)) := HX.out.cell 7
            have d8 : w10.cell? ⟨wr.heap.size, 8, none⟩ = some (.int .i64 f.large.kind) := HX.out.cell 8
            go_wp2_with fail
            refine (renc_key f.small HK.out.1 _).mono ?_
            rintro _ u1 ⟨sa, sk, rfl, hsb, hb⟩
            have R11 : Hid (RE W1 u1 a10 n10 k10 B10) := R10.out.call hb
            have HS1 : Hid (BsAt u1 sa f.small.enc.length sk f.small.enc) := hsb.bs
            have HOL : Hid (∀ k, (Value.slice a10 n10 k10).ownBlock = some k → k < u1.heap.size) := fun k hk => tag_lt (row_tag R11.out.own.row hk)
            have HXu : Hid (Box u1 wr.heap.size TF #[.int .i64 (lv : Int), .int .u64 (f.num : Int), .int .i64 (sz : Int), .string f.small.user, .int .u64 (f.small.seq : Int), .int .i64 f.small.kind, .string f.large.user, .int .u64 (f.large.seq : Int), .int .i64 f.large.kind]) := HX.out.kept (hb.block _ HX.out.lt)
            replace HX := HXu
            clear hsb hb HXu R10
            clear d0 d1 d2 d3 d4 d5 d6 d7 d8
            have d0 : u1.cell? ⟨wr.heap.size, 0, none⟩ = some (.int .i64 (lv : Int)) := HX.out.cell 0
            have d1 : u1.cell? ⟨wr.heap.size, 1, none⟩ = some (.int .u64 (f.num : Int)) := HX.out.cell 1
            have d2 : u1.cell? ⟨wr.heap.size, 2, none⟩ = some (.int .i64 (sz : Int)) := HX.out.cell 2
            have d3 : u1.cell? ⟨wr.heap.size, 3, none⟩ = some (.string f.small.user) := HX.out.cell 3
            have d4 : u1.cell? ⟨wr.heap.size, 4, none⟩ = some (.int .u64 (f.small.seq : Int)) := HX.out.cell 4
            have d5 : u1.cell? ⟨wr.heap.size, 5, none⟩ = some (.int .i64 f.small.kind) := HX.out.cell 5
            have d6 : u1.cell? ⟨wr.heap.size, 6, none⟩ = some (.string f.large.user) := HX.out.cell 6
            have d7 : u1.cell? ⟨wr.heap.size, 7, none⟩ = some (.int .u64 (f.large.seq : Int)) := HX.out.cell 7
            have d8 : u1.cell? ⟨wr.heap.size, 8, none⟩ = some (.int .i64 f.large.kind) := HX.out.cell 8
            go_wp2_with fail
            refine (renc_key f.large HK.out.2 _).mono ?_
            rintro _ u2 ⟨la, lk, rfl, hsb, hb⟩
            have R10 : Hid (RE W1 u2 a10 n10 k10 B10) := R11.out.call hb
            have HS2 : Hid (BsAt u2 sa f.small.enc.length sk f.small.enc ∧ OwnB u2 u1.heap.size la f.large.enc.length lk f.large.enc) := ⟨HS1.out.below (Nat.le_refl _) hb, hsb⟩
            have cv1 := conv_of HS2.out.1
            clear hsb hb HX R11 HS1 d0 d1 d2 d3 d4 d5 d6 d7 d8
            generalize f.small.enc.length = sl at HS2 cv1 ⊢
            generalize hll : f.large.enc.length = ll at HS2 ⊢
            have HLL : Hid (f.large.enc.length = ll) := hll
            clear hll
            go_wp2_with fail
            refine (rputT_nil f.small.enc HQ.out.1 _).mono ?_
            rintro _ v13 ⟨b13, l13, rfl, ho13, hb13⟩
            have Q13 : Hid (RE W1 v13 a10 n10 k10 B10 ∧ BsAt v13 b13 (txtPut f.small.enc).length l13 (txtPut f.small.enc) ∧ W1.heap.size ≤ v13.heap.size) := ⟨R10.out.call hb13, ho13.bs, (R10.out.call hb13).base.size⟩
            have HS3 : Hid (OwnB v13 u1.heap.size la ll lk f.large.enc) := HS2.out.2.below hb13
            clear ho13 hb13 cv1 HS2
            go_wp2_with (first | (at_builtin; refine wpList_app _ rfl _ _ rfl W1.heap.size a10 n10 k10 B10 rfl Q13.out.1.own b13 (txtPut f.small.enc).length l13 (txtPut f.small.enc) rfl Q13.out.2.1 (by omega) Q13.out.2.2 ?_))
            intro a13 k13 w13 ho13 hb13 hg13
            have HS4 : Hid (BsAt w13 la ll lk f.large.enc) := by
              have ho := HS3.out
              have hk : OwnB w13 u1.heap.size la ll lk f.large.enc := ⟨ho.size, row_same ho.row (fun b e => (Chg.grown hg13).block b (tag_lt (row_tag ho.row e)) (fun e' => by have h1 := HOL.out b e'; have h2 := (ho.row.lt b e).1; omega))⟩
              exact hk.bs
            obtain ⟨B13, hB13⟩ : ∃ B, B = B10 ++ txtPut f.small.enc := ⟨_, rfl⟩
            have HB13 : Hid (B13 = B10 ++ txtPut f.small.enc) := hB13
            rw [← hB13] at ho13
            have hn13 : n10 + (txtPut f.small.enc).length ≤ 400050 + 194 * j + 112 := by omega
            have R13 : Hid (RE W1 w13 a13 (n10 + (txtPut f.small.enc).length) k13 B13) := ⟨ho13, Q13.out.1.base.trans hb13⟩
            have cv2 := conv_of HS4.out
            clear ho13 hb13 hg13 hB13 Q13 HS3
            generalize n10 + (txtPut f.small.enc).length = n13 at hn13 R13 ⊢
            go_wp2_with fail
            refine (rputT_nil f.large.enc HQ.out.2 _).mono ?_
            rintro _ v14 ⟨b14, l14, rfl, ho14, hb14⟩
            have Q14 : Hid (RE W1 v14 a13 n13 k13 B13 ∧ BsAt v14 b14 (txtPut f.large.enc).length l14 (txtPut f.large.enc) ∧ W1.heap.size ≤ v14.heap.size) := ⟨R13.out.call hb14, ho14.bs, (R13.out.call hb14).base.size⟩
            clear ho14 hb14 cv2 HS4
            go_wp2_with (first | (at_builtin; refine wpList_app _ rfl _ _ rfl W1.heap.size a13 n13 k13 B13 rfl Q14.out.1.own b14 (txtPut f.large.enc).length l14 (txtPut f.large.enc) rfl Q14.out.2.1 (by omega) Q14.out.2.2 ?_))
            intro a14 k14 w14 ho14 hb14 hg14
            have hn14 : n13 + (txtPut f.large.enc).length ≤ 400050 + 194 * (j + 1) := by omega
            have R14 : Hid (RE W1 w14 a14 (n13 + (txtPut f.large.enc).length) k14 (B6 ++ (x.adds.take (j + 1)).flatMap PF.enc)) := by
              refine ⟨?_, Q14.out.1.base.trans hb14⟩
              rw [HT.out, HG.out]
              rw [HB13.out, HB10.out, HB9.out, HB8.out, HB7.out] at ho14
              simpa only [List.append_assoc] using ho14
            clear ho14 hb14 hg14 Q14
            generalize n13 + (txtPut f.large.enc).length = n14 at hn14 R14 ⊢
            go_wp2
            go_roundw
            case rel => exact ⟨j + 1, a14, n14, k14, hjn, by go_num, rfl, hn14, R14.out⟩
            case measure => simp only [intOf]; omega
          · have HF : Hid (RE W1 wr a7 n7 k7 x.lay) := by
              have h1 := HR7.out
              rw [List.take_of_length_le (by omega)] at h1
              have e : B6 ++ x.adds.flatMap PF.enc = x.lay := by
                rw [HL.out.1, HB6.out, HB5.out, HB4.out, HB3.out, HB2.out, HB1.out]
                unfold PE.enc
                simp
              rw [e] at h1
              exact h1
            have hs := HF.out.own.size
            go_wp2
            go_ret2
            rw [hs]
            exact ⟨a7, k7, ret2 rfl rfl, HF.out.own.mono HW.out.2.2.2, HW.out.1.trans (HF.out.base.mono HW.out.2.2.2)⟩
  · have hne : (((x.err : Nat) : Int) != 0) = true := by simp; omega
    have HL : Hid (x.lay = []) := PE.lay_no her
    generalize x.err = er at *
    go_enter Try.func10, Try.ntmps10
    go_wp2_with fail
    refine (HC.out _ rfl).mono ?_
    rintro _ w2 ⟨rfl, hb2⟩
    have H2 : Hid (Below w.heap.size w w2) := HW.out.1.trans (hb2.mono HW.out.2.2.2)
    clear hb2
    go_wp2
    go_ret2
    rw [HL.out]
    exact ⟨none, 0, ret2 rfl rfl, OwnB.none0 _ _, H2.out⟩
end Go.Proofs.Ytiflepadjcpjjaa
