/- The contract of batch.Decode: the number and the operations that bytes are. -/
import Derived.Test.YtohhdbmkbfehfaaBEnc
import Derived.Test.YtohhdbmkbfehfaaBTake
import Derived.Test.YtohhdbmkbfehfaaBEq
import Derived.Test.YtohhdbmkbfehfaaConvInt
import Derived.WalkMore
namespace Go.Proofs.Ytohhdbmkbfehfaa
open Go.RowKit
set_option maxRecDepth 100000 in
set_option maxHeartbeats 4000000 in
theorem bdecode_any (a : Option Addr) (len cap : Nat) (bs : List UInt8) (w : World) (h : BsAt w a len cap bs) :
    Calls Try.prog 15 #[.slice a len cap] w fun e w' => ∃ a' n c', e = .returned (.tuple #[.int .u64 (((bDec bs).1 : Nat) : Int), .slice a' n c', .int .i64 (((bDec bs).2.2 : Nat) : Int)]) ∧ OpsAt w' a' n c' (bDec bs).2.1 ∧ (∀ ad, a' = some ad → w.heap.size ≤ ad.block) ∧ Below w.heap.size w w' := by
  have hlen := h.size
  have HBS : Hid (BsAt w a len cap bs) := h
  have HL : Hid (bs.length = len) := hlen
  have HQ : numAt bs 0 8 < 18446744073709551616 := numAt_lt _ _ _
  have HN4 : numAt bs (numTo bs 0 8) 4 < 18446744073709551616 := numAt_lt _ _ _
  have HW0 : Hid (onWay bs (numAt bs 0 8) (numAt bs (numTo bs 0 8) 4) 0 (numTo bs (numTo bs 0 8) 4) []) := onWay_start bs
  have hp1 : numTo bs 0 8 ≤ len := by rw [← hlen]; exact numTo_le _ (Nat.zero_le _)
  have hp2 : numTo bs (numTo bs 0 8) 4 ≤ len := by rw [← hlen]; exact numTo_le _ (by rw [hlen]; exact hp1)
  have hn8 := fun W (hT : Taking W w.heap.size (w.heap.size + 1) a len cap 0) (hB : BsAt W a len cap bs) => number_any w.heap.size (w.heap.size + 1) a len cap 0 8 bs W hT hB (by omega) (Nat.zero_le _)
  have hn4 := fun W (hT : Taking W w.heap.size (w.heap.size + 1) a len cap (numTo bs 0 8)) (hB : BsAt W a len cap bs) => number_any w.heap.size (w.heap.size + 1) a len cap (numTo bs 0 8) 4 bs W hT hB (by omega) hp1
  generalize numAt bs 0 8 = q at HQ HW0 hn8
  generalize numAt bs (numTo bs 0 8) 4 = N at HN4 HW0 hn4
  generalize numTo bs (numTo bs 0 8) 4 = p2 at hp2 HW0 hn4
  generalize numTo bs 0 8 = p1 at hp1 hn8 hn4
  have HN8 : Hid (∀ W, Taking W w.heap.size (w.heap.size + 1) a len cap 0 → _) := hn8
  have HNN : Hid (∀ W, Taking W w.heap.size (w.heap.size + 1) a len cap p1 → _) := hn4
  clear h hlen hn8 hn4
  go_enter Try.func15, Try.ntmps15
  go_wp2_with fail
  go_step3
  go_wp2_with fail
  refine (takers_any a len cap _).mono ?_
  rintro e w1 ⟨rfl, ht1, hs1, hb1⟩
  have HT1 : Hid (Taking w1 w.heap.size (w.heap.size + 1) a len cap 0) := ht1
  have HB1 : Hid (Below w.heap.size w w1) := hb1
  have HS1 : Hid (w.heap.size + 2 ≤ w1.heap.size) := by unfold Hid; omega
  clear ht1 hs1 hb1
  go_wp2_with fail
  refine (HN8.out _ HT1.out (HBS.out.below (Nat.le_refl _) HB1.out)).mono ?_
  rintro e w2 ⟨rfl, ht2, hg2⟩
  have HT2 : Hid (Taking w2 w.heap.size (w.heap.size + 1) a len cap p1) := ht2
  have HB2 : Hid (Below w.heap.size w w2) := HB1.out.grown hg2 HB1.out.size (fun k hk => by simp at hk; omega)
  have HS2 : Hid (w.heap.size + 2 ≤ w2.heap.size) := Nat.le_trans HS1.out hg2.size
  clear ht2 hg2 HT1 HB1 HS1
  go_wp2_with fail
  refine (HNN.out _ HT2.out (HBS.out.below (Nat.le_refl _) HB2.out)).mono ?_
  rintro e w3 ⟨rfl, ht3, hg3⟩
  have HT3 : Hid (Taking w3 w.heap.size (w.heap.size + 1) a len cap p2) := ht3
  have HB3 : Hid (Below w.heap.size w w3) := HB2.out.grown hg3 HB2.out.size (fun k hk => by simp at hk; omega)
  have HS3 : Hid (w.heap.size + 2 ≤ w3.heap.size) := Nat.le_trans HS2.out hg3.size
  clear ht3 hg3 HT2 HB2 HS2
  by_cases h64 : 64 < N
  · have HE : Hid (bDec bs = (0, [], 32)) := onWay_many HW0.out h64
    go_wp2_with fail
    try rw [Exit.noGoto_ret]
    go_ret3
    rw [HE.out]
    exact ⟨none, 0, 0, ret3 rfl rfl rfl, OpsAt.nil _, (fun _ h => by cases h), HB3.out⟩
  · go_wp2_with fail
    go_step3
    go_wp2_with fail
    go_loopw [3, 23] (fun o i wr => ∃ (ao : Option Addr) (co k p : Nat) (L : List Opn), k ≤ N ∧ p ≤ len ∧ o = .slice ao k co ∧ i = .int .u64 (k : Int) ∧ Hid (DecAt w wr a len cap p ao k co L) ∧ Hid (onWay bs q N k p L)) (fun _ i _ => N - (intOf i).toNat)
    case atStart => exact ⟨none, 0, 0, p2, [], Nat.zero_le _, hp2, rfl, rfl, ⟨OwnO.nil _ _, HT3.out, HB3.out, HS3.out⟩, HW0.out⟩
    case round =>
      obtain ⟨ao, co, k, p, L, hk, hp, rfl, rfl, HD, HG⟩ := hrel
      by_cases hlt : k < N
      · have hp3 : numTo bs p 1 ≤ len := by rw [← HL.out]; exact numTo_le _ (by rw [HL.out]; exact hp)
        have hp4 : txtTo bs (numTo bs p 1) ≤ len := by rw [← HL.out]; exact txtTo_le (by rw [HL.out]; exact hp3)
        have hp5 : txtTo bs (txtTo bs (numTo bs p 1)) ≤ len := by rw [← HL.out]; exact txtTo_le (by rw [HL.out]; exact hp4)
        have hn1 := fun W (hT : Taking W w.heap.size (w.heap.size + 1) a len cap p) (hX : BsAt W a len cap bs) => number_any w.heap.size (w.heap.size + 1) a len cap p 1 bs W hT hX (by omega) hp
        have hx1 := fun W (hT : Taking W w.heap.size (w.heap.size + 1) a len cap (numTo bs p 1)) (hX : BsAt W a len cap bs) => text_taken w.heap.size (w.heap.size + 1) a len cap (numTo bs p 1) bs W hT hX (by omega) hp3
        have hx2 := fun W (hT : Taking W w.heap.size (w.heap.size + 1) a len cap (txtTo bs (numTo bs p 1))) (hX : BsAt W a len cap bs) => text_taken w.heap.size (w.heap.size + 1) a len cap (txtTo bs (numTo bs p 1)) bs W hT hX (by omega) hp4
        have hput := onWay_put HG.out hlt
        have hdel := onWay_del HG.out hlt
        have hnone := fun h0 h1 => onWay_none HG.out hlt h0 h1 q L
        have hkd := numAt_byte bs p
        generalize numAt bs p 1 = kd at hn1 hput hdel hnone hkd
        generalize txtAt bs (txtTo bs (numTo bs p 1)) = s2 at hx2 hput
        generalize txtTo bs (txtTo bs (numTo bs p 1)) = p5 at hp5 hx2 hput
        generalize txtAt bs (numTo bs p 1) = s1 at hx1 hput hdel
        generalize txtTo bs (numTo bs p 1) = p4 at hp4 hx1 hx2 hdel
        generalize numTo bs p 1 = p3 at hp3 hn1 hx1
        have HN1 : Hid (∀ W, Taking W w.heap.size (w.heap.size + 1) a len cap p → _) := hn1
        have HX1 : Hid (∀ W, Taking W w.heap.size (w.heap.size + 1) a len cap p3 → _) := hx1
        have HX2 : Hid (∀ W, Taking W w.heap.size (w.heap.size + 1) a len cap p4 → _) := hx2
        clear hn1 hx1 hx2
        by_cases hk1 : kd = 1
        · subst hk1
          have HW : Hid (onWay bs q N (k + 1) p5 (L ++ [⟨1, s1, s2⟩])) := hput rfl
          clear hput hdel hnone hkd
          go_wp2_with fail
          refine (HN1.out _ HD.out.tk (HBS.out.below (Nat.le_refl _) HD.out.blw)).mono ?_
          rintro e w4 ⟨rfl, ht4, hg4⟩
          have D4 : Hid (DecAt w w4 a len cap p3 ao k co L) := HD.out.taken ht4 hg4
          obtain ⟨n8, hn8⟩ : ∃ n, n = w4.heap.size := ⟨_, rfl⟩
          have HN8 : Hid (w.heap.size + 2 ≤ n8 ∧ ∀ g, (Value.slice ao k co).ownBlock = some g → g < n8) := by
            refine ⟨by rw [hn8]; exact D4.out.sz, fun g hg => by rw [hn8]; exact (D4.out.own.row.lt g hg).2⟩
          have HN : Hid (n8 = w4.heap.size) := hn8
          clear ht4 hg4 hn8
          go_wp2_with fail
          rw [← HN.out]
          refine (HX1.out _ (D4.out.alloc _).tk (HBS.out.below (Nat.le_refl _) (D4.out.alloc _).blw)).mono ?_
          rintro e w5 ⟨rfl, ht5, hg5⟩
          have D5 : Hid (DecAt w w5 a len cap p4 ao k co L) := (D4.out.alloc _).taken ht5 hg5
          have R5 : Hid (Rec3 w5 n8 (.int .i64 1) (.string ByteArray.empty) (.string ByteArray.empty)) := (Rec3.new w4 _ HN.out _ _ _ _).grown hg5 (by have := HN8.out.1; simp; omega)
          clear ht5 hg5 HN D4
          obtain ⟨t0, t1, t2, f0, f1, f2, _⟩ := R5.out
          obtain ⟨r0, r1, r2, _, _, _, _⟩ := R5.out.set1 (.string s1)
          go_wp2_with fail
          refine (HX2.out _ (D5.out.set 1 (.string s1) HN8.out.1 HN8.out.2).tk (HBS.out.below (Nat.le_refl _) (D5.out.set 1 (.string s1) HN8.out.1 HN8.out.2).blw)).mono ?_
          rintro e w6 ⟨rfl, ht6, hg6⟩
          have D6 : Hid (DecAt w w6 a len cap p5 ao k co L) := (D5.out.set 1 (.string s1) HN8.out.1 HN8.out.2).taken ht6 hg6
          have R6 : Hid (Rec3 w6 n8 (.int .i64 1) (.string s1) (.string ByteArray.empty)) := (R5.out.set1 _).grown hg6 (by have := HN8.out.1; simp; omega)
          clear ht6 hg6 t0 t1 t2 f0 f1 f2 D5 R5
          obtain ⟨t0, t1, t2, f0, f1, f2, _⟩ := R6.out
          obtain ⟨r0, r1, r2, _, _, _, _⟩ := R6.out.set2 (.string s2)
          go_wp2_with (first
            | (at_builtin; refine wpList_appO _ rfl _ _ rfl (w.heap.size + 2) _ _ _ L rfl ((D6.out.set 2 (.string s2) HN8.out.1 HN8.out.2).alloc _).own _ _ _ [⟨1, s1, s2⟩] rfl (OpsAt.oneAt (by simp)) (by omega) ((D6.out.set 2 (.string s2) HN8.out.1 HN8.out.2).alloc _).sz ?_))
          intro a7 c7 w7 ho7 hb7
          have D7 : Hid (DecAt w w7 a len cap p5 a7 (k + 1) c7 (L ++ [⟨1, s1, s2⟩])) := ((D6.out.set 2 (.string s2) HN8.out.1 HN8.out.2).alloc _).app ho7 hb7
          clear ho7 hb7 t0 t1 t2 f0 f1 f2 r0 r1 r2
          go_wp2_with fail
          go_roundw
          case rel => exact ⟨a7, c7, k + 1, p5, _, by omega, hp5, rfl, by go_num, D7.out, HW.out⟩
          case measure => simp [intOf]; omega
        · by_cases hk0 : kd = 0
          · subst hk0
            have HW : Hid (onWay bs q N (k + 1) p4 (L ++ [⟨0, s1, ByteArray.empty⟩])) := hdel rfl
            clear hput hdel hnone hkd hk1
            go_wp2_with fail
            refine (HN1.out _ HD.out.tk (HBS.out.below (Nat.le_refl _) HD.out.blw)).mono ?_
            rintro e w4 ⟨rfl, ht4, hg4⟩
            have D4 : Hid (DecAt w w4 a len cap p3 ao k co L) := HD.out.taken ht4 hg4
            obtain ⟨n8, hn8⟩ : ∃ n, n = w4.heap.size := ⟨_, rfl⟩
            have HN8 : Hid (w.heap.size + 2 ≤ n8 ∧ ∀ g, (Value.slice ao k co).ownBlock = some g → g < n8) := by
              refine ⟨by rw [hn8]; exact D4.out.sz, fun g hg => by rw [hn8]; exact (D4.out.own.row.lt g hg).2⟩
            have HN : Hid (n8 = w4.heap.size) := hn8
            clear ht4 hg4 hn8
            go_wp2_with fail
            rw [← HN.out]
            refine (HX1.out _ (D4.out.alloc _).tk (HBS.out.below (Nat.le_refl _) (D4.out.alloc _).blw)).mono ?_
            rintro e w5 ⟨rfl, ht5, hg5⟩
            have D5 : Hid (DecAt w w5 a len cap p4 ao k co L) := (D4.out.alloc _).taken ht5 hg5
            have R5 : Hid (Rec3 w5 n8 (.int .i64 0) (.string ByteArray.empty) (.string ByteArray.empty)) := (Rec3.new w4 _ HN.out _ _ _ _).grown hg5 (by have := HN8.out.1; simp; omega)
            clear ht5 hg5 HN D4
            obtain ⟨t0, t1, t2, f0, f1, f2, _⟩ := R5.out
            obtain ⟨r0, r1, r2, _, _, _, _⟩ := R5.out.set1 (.string s1)
            go_wp2_with (first
              | (at_builtin; refine wpList_appO _ rfl _ _ rfl (w.heap.size + 2) _ _ _ L rfl ((D5.out.set 1 (.string s1) HN8.out.1 HN8.out.2).alloc _).own _ _ _ [⟨0, s1, ByteArray.empty⟩] rfl (OpsAt.oneAt (by simp)) (by omega) ((D5.out.set 1 (.string s1) HN8.out.1 HN8.out.2).alloc _).sz ?_))
            intro a7 c7 w7 ho7 hb7
            have D7 : Hid (DecAt w w7 a len cap p4 a7 (k + 1) c7 (L ++ [⟨0, s1, ByteArray.empty⟩])) := ((D5.out.set 1 (.string s1) HN8.out.1 HN8.out.2).alloc _).app ho7 hb7
            clear ho7 hb7 t0 t1 t2 f0 f1 f2 r0 r1 r2
            go_wp2_with fail
            go_roundw
            case rel => exact ⟨a7, c7, k + 1, p4, _, by omega, hp4, rfl, by go_num, D7.out, HW.out⟩
            case measure => simp [intOf]; omega
          · have HDN : Hid (readDone bs q L) := hnone hk0 hk1
            have hk1' : (((kd : Nat) : Int) == 1) = false := by simp; omega
            have hk0' : (((kd : Nat) : Int) == 0) = false := by simp; omega
            have hcv := conv_u64_int kd (by omega)
            clear hput hdel hnone hk0 hk1
            go_wp2_with fail
            refine (HN1.out _ HD.out.tk (HBS.out.below (Nat.le_refl _) HD.out.blw)).mono ?_
            rintro e w4 ⟨rfl, ht4, hg4⟩
            have D4 : Hid (DecAt w w4 a len cap p3 ao k co L) := HD.out.taken ht4 hg4
            obtain ⟨n8, hn8⟩ : ∃ n, n = w4.heap.size := ⟨_, rfl⟩
            have HN8 : Hid (w.heap.size + 2 ≤ n8 ∧ ∀ g, (Value.slice ao k co).ownBlock = some g → g < n8) := by
              refine ⟨by rw [hn8]; exact D4.out.sz, fun g hg => by rw [hn8]; exact (D4.out.own.row.lt g hg).2⟩
            have HN : Hid (n8 = w4.heap.size) := hn8
            clear ht4 hg4 hn8
            go_wp2_with fail
            rw [← HN.out]
            refine (HX1.out _ (D4.out.alloc _).tk (HBS.out.below (Nat.le_refl _) (D4.out.alloc _).blw)).mono ?_
            rintro e w5 ⟨rfl, ht5, hg5⟩
            have D5 : Hid (DecAt w w5 a len cap p4 ao k co L) := (D4.out.alloc _).taken ht5 hg5
            have R5 : Hid (Rec3 w5 n8 (.int .i64 (kd : Int)) (.string ByteArray.empty) (.string ByteArray.empty)) := (Rec3.new w4 _ HN.out _ _ _ _).grown hg5 (by have := HN8.out.1; simp; omega)
            clear ht5 hg5 HN D4
            obtain ⟨t0, t1, t2, f0, f1, f2, _⟩ := R5.out
            obtain ⟨r0, r1, r2, _, _, _, _⟩ := R5.out.set1 (.string s1)
            have D6 : Hid (DecAt w (w5.setCell ⟨n8, 1, none⟩ (.string s1)) a len cap p4 ao k co L) := D5.out.set 1 (.string s1) HN8.out.1 HN8.out.2
            have HF := readDone_dec HDN.out
            have henc := fun X (hX : OpsAt X ao k co L) => bencode_any q ao k co L X HQ hX
            by_cases hq0 : bchk q L = 0
            · by_cases hq1 : bEnc q L = bs
              · rw [if_pos ⟨hq0, hq1⟩] at HF
                have HF : Hid (bDec bs = (q, L, 0)) := HF
                rw [hq0, hq1, HL.out] at henc
                have HENC : Hid (∀ X, OpsAt X ao k co L → _) := henc
                clear henc hq0 hq1
                go_wp2_with fail
                refine (HENC.out _ D6.out.own.ops).mono ?_
                rintro e w8 ⟨a8, c8, rfl, hx8, hb8⟩
                have HX8 : Hid (BsAt w8 a8 len c8 bs) := hx8
                have HY8 : Hid (BsAt w8 a len cap bs) := (HBS.out.below (Nat.le_refl _) D6.out.blw).below (Nat.le_refl _) hb8
                have HB8 : Hid (Below w.heap.size w w8) := D6.out.blw.trans (hb8.mono D6.out.blw.size)
                have HO8 : Hid (OpsAt w8 ao k co L) := D6.out.own.ops.below (Nat.le_refl _) hb8
                have HEQ : Hid ((bs == bs) = true) := by unfold Hid; simp
                clear hx8 hb8
                go_wp2_with fail
                refine (equal_any _ _ _ _ _ _ bs bs _ HX8.out HY8.out).mono ?_
                rw [HEQ.out]
                rintro e w9 ⟨rfl, rfl⟩
                go_wp2_with fail
                try rw [Exit.noGoto_ret]
                go_ret3
                rw [HF.out]
                exact ⟨ao, k, co, ret3 rfl rfl rfl, HO8.out, fun ad had => Nat.le_trans (Nat.le_add_right _ 2) (D6.out.own.fresh ad had), HB8.out⟩
              · rw [if_neg (fun h => hq1 h.2)] at HF
                have HF : Hid (bDec bs = (0, [], 32)) := HF
                have HEQ : Hid ((bEnc q L == bs) = false) := by unfold Hid; simpa using hq1
                rw [hq0] at henc
                generalize bEnc q L = X0 at henc HEQ
                have HENC : Hid (∀ X, OpsAt X ao k co L → _) := henc
                clear henc hq0 hq1
                go_wp2_with fail
                refine (HENC.out _ D6.out.own.ops).mono ?_
                rintro e w8 ⟨a8, c8, rfl, hx8, hb8⟩
                have HX8 : Hid (BsAt w8 a8 X0.length c8 X0) := hx8
                have HY8 : Hid (BsAt w8 a len cap bs) := (HBS.out.below (Nat.le_refl _) D6.out.blw).below (Nat.le_refl _) hb8
                have HB8 : Hid (Below w.heap.size w w8) := D6.out.blw.trans (hb8.mono D6.out.blw.size)
                clear hx8 hb8
                go_wp2_with fail
                refine (equal_any _ _ _ _ _ _ X0 bs _ HX8.out HY8.out).mono ?_
                rw [HEQ.out]
                rintro e w9 ⟨rfl, rfl⟩
                go_wp2_with fail
                try rw [Exit.noGoto_ret]
                go_ret3
                rw [HF.out]
                exact ⟨none, 0, 0, ret3 rfl rfl rfl, OpsAt.nil _, (fun _ h => by cases h), HB8.out⟩
            · rw [if_neg (fun h => hq0 h.1)] at HF
              have HF : Hid (bDec bs = (0, [], 32)) := HF
              have hne : (((bchk q L : Nat) : Int) != 0) = true := by simp; omega
              generalize bchk q L = cq at henc hne
              generalize bEnc q L = X0 at henc
              have HENC : Hid (∀ X, OpsAt X ao k co L → _) := henc
              clear henc hq0
              go_wp2_with fail
              refine (HENC.out _ D6.out.own.ops).mono ?_
              rintro e w8 ⟨a8, c8, rfl, hx8, hb8⟩
              have HB8 : Hid (Below w.heap.size w w8) := D6.out.blw.trans (hb8.mono D6.out.blw.size)
              clear hx8 hb8
              go_wp2_with fail
              try rw [Exit.noGoto_ret]
              go_ret3
              rw [HF.out]
              exact ⟨none, 0, 0, ret3 rfl rfl rfl, OpsAt.nil _, (fun _ h => by cases h), HB8.out⟩
      · obtain rfl : k = N := by omega
        have HF := readDone_dec (onWay_end HG.out)
        have henc := fun X (hX : OpsAt X ao k co L) => bencode_any q ao k co L X HQ hX
        by_cases hq0 : bchk q L = 0
        · by_cases hq1 : bEnc q L = bs
          · rw [if_pos ⟨hq0, hq1⟩] at HF
            have HF : Hid (bDec bs = (q, L, 0)) := HF
            rw [hq0, hq1, HL.out] at henc
            have HENC : Hid (∀ X, OpsAt X ao k co L → _) := henc
            clear henc hq0 hq1
            go_wp2_with fail
            refine (HENC.out _ HD.out.own.ops).mono ?_
            rintro e w8 ⟨a8, c8, rfl, hx8, hb8⟩
            have HX8 : Hid (BsAt w8 a8 len c8 bs) := hx8
            have HY8 : Hid (BsAt w8 a len cap bs) := (HBS.out.below (Nat.le_refl _) HD.out.blw).below (Nat.le_refl _) hb8
            have HB8 : Hid (Below w.heap.size w w8) := HD.out.blw.trans (hb8.mono HD.out.blw.size)
            have HO8 : Hid (OpsAt w8 ao k co L) := HD.out.own.ops.below (Nat.le_refl _) hb8
            have HEQ : Hid ((bs == bs) = true) := by unfold Hid; simp
            clear hx8 hb8
            go_wp2_with fail
            refine (equal_any _ _ _ _ _ _ bs bs _ HX8.out HY8.out).mono ?_
            rw [HEQ.out]
            rintro e w9 ⟨rfl, rfl⟩
            go_wp2_with fail
            try rw [Exit.noGoto_ret]
            go_ret3
            rw [HF.out]
            exact ⟨ao, k, co, ret3 rfl rfl rfl, HO8.out, fun ad had => Nat.le_trans (Nat.le_add_right _ 2) (HD.out.own.fresh ad had), HB8.out⟩
          · rw [if_neg (fun h => hq1 h.2)] at HF
            have HF : Hid (bDec bs = (0, [], 32)) := HF
            have HEQ : Hid ((bEnc q L == bs) = false) := by unfold Hid; simpa using hq1
            rw [hq0] at henc
            generalize bEnc q L = X0 at henc HEQ
            have HENC : Hid (∀ X, OpsAt X ao k co L → _) := henc
            clear henc hq0 hq1
            go_wp2_with fail
            refine (HENC.out _ HD.out.own.ops).mono ?_
            rintro e w8 ⟨a8, c8, rfl, hx8, hb8⟩
            have HX8 : Hid (BsAt w8 a8 X0.length c8 X0) := hx8
            have HY8 : Hid (BsAt w8 a len cap bs) := (HBS.out.below (Nat.le_refl _) HD.out.blw).below (Nat.le_refl _) hb8
            have HB8 : Hid (Below w.heap.size w w8) := HD.out.blw.trans (hb8.mono HD.out.blw.size)
            clear hx8 hb8
            go_wp2_with fail
            refine (equal_any _ _ _ _ _ _ X0 bs _ HX8.out HY8.out).mono ?_
            rw [HEQ.out]
            rintro e w9 ⟨rfl, rfl⟩
            go_wp2_with fail
            try rw [Exit.noGoto_ret]
            go_ret3
            rw [HF.out]
            exact ⟨none, 0, 0, ret3 rfl rfl rfl, OpsAt.nil _, (fun _ h => by cases h), HB8.out⟩
        · rw [if_neg (fun h => hq0 h.1)] at HF
          have HF : Hid (bDec bs = (0, [], 32)) := HF
          have hne : (((bchk q L : Nat) : Int) != 0) = true := by simp; omega
          generalize bchk q L = cq at henc hne
          generalize bEnc q L = X0 at henc
          have HENC : Hid (∀ X, OpsAt X ao k co L → _) := henc
          clear henc hq0
          go_wp2_with fail
          refine (HENC.out _ HD.out.own.ops).mono ?_
          rintro e w8 ⟨a8, c8, rfl, hx8, hb8⟩
          have HB8 : Hid (Below w.heap.size w w8) := HD.out.blw.trans (hb8.mono HD.out.blw.size)
          clear hx8 hb8
          go_wp2_with fail
          try rw [Exit.noGoto_ret]
          go_ret3
          rw [HF.out]
          exact ⟨none, 0, 0, ret3 rfl rfl rfl, OpsAt.nil _, (fun _ h => by cases h), HB8.out⟩
end Go.Proofs.Ytohhdbmkbfehfaa
