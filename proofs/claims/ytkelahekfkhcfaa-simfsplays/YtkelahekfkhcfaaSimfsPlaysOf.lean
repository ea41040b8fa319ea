/- staddlelaw04.SimfsPlays returns true, for every argument, and leaves memory as it was: out of what both file systems promise. -/
import Derived.Test.YtkelahekfkhcfaaAwake4
import Derived.Test.YtkelahekfkhcfaaPaAsk
import Derived.Test.YtkelahekfkhcfaaAlikeAny
import Derived.Test.YtkelahekfkhcfaaCallsAt
import Derived.Deep.DeepCutAuto
namespace Go.Proofs.Ytkelahekfkhcfaa
open Go.RowKit
set_option maxRecDepth 100000 in
set_option maxHeartbeats 4000000 in
theorem simfsPlays_of {J : Face} (h : FsOk J) (g : RfOk J) (a0 : Int) (a1 : Option Addr) (len1 cap1 : Nat) (b1 : List CallV) (a2 : Option Addr) (len2 cap2 : Nat) (b2 : List CallV) (w : World) (w0 : -9223372036854775808 ≤ a0 ∧ a0 ≤ 9223372036854775807) (w1 : CsAt w a1 len1 cap1 b1) (w2 : CsAt w a2 len2 cap2 b2) :
    Calls Try.prog 4 #[.int .i64 a0, .slice a1 len1 cap1, .slice a2 len2 cap2] w fun e w' => e = .returned (.bool true) ∧ Below w.heap.size w w' := by
  have HH : Hid (FsOk J) := h
  have HG : Hid (RfOk J) := g
  have H1 : Hid (CsAt w a1 len1 cap1 b1) := w1
  have H2 : Hid (CsAt w a2 len2 cap2 b2) := w2
  have hc1 := w1.max
  have hl1 := w1.le
  have hc2 := w2.max
  have hl2 := w2.le
  obtain ⟨l0, u0⟩ := w0
  unfold maxLen at hc1 hc2
  clear h g w1 w2
  go_enter Try.func4, Try.ntmps4
  go_wp2_with fail
  refine (awake_any HH.out _).mono ?_
  rintro e v1 ⟨rfl, hb1⟩
  have HP : Hid (Kp (fun k => k < w.heap.size) w v1) := Kp.of hb1
  have HJ : Hid (J v1 (fun k => k < w.heap.size) [] []) := HH.out.less (HH.out.zero v1) (fun _ hk => Nat.lt_of_lt_of_le hk hb1.size)
  clear hb1
  go_upto_if 24 with fail
  go_cut [1] (fun s wc => ∃ (n : Nat) (b : List CallV), s = .slice a1 n cap1 ∧ n ≤ 200 ∧ n ≤ cap1 ∧ wc = v1 ∧ Hid (CsAt w a1 n cap1 b))
  case first =>
    by_cases hq : 200 < len1
    · obtain ⟨bb, off, rfl, _⟩ := H1.out.here (by omega)
      go_wp2_with fail
      go_meet
      exact ⟨200, b1.take 200, rfl, by omega, by omega, rfl, H1.out.upTo 200 (by omega)⟩
    · have hq' : decide ((200 : Int) < (len1 : Int)) = false := by simp; omega
      go_wp2_with fail
      go_meet
      exact ⟨len1, b1, rfl, by omega, hl1, rfl, H1.out⟩
  case rest =>
    obtain ⟨n1, s1, rfl, hn1, hnc1, rfl, HS1⟩ := hcut
    go_upto_if 29 with fail
    go_cut [2] (fun s wz => ∃ (n : Nat) (b : List CallV), s = .slice a2 n cap2 ∧ n ≤ 50 ∧ n ≤ cap2 ∧ wz = wc ∧ Hid (CsAt w a2 n cap2 b))
    case first =>
      by_cases hq : 50 < len2
      · obtain ⟨bb, off, rfl, _⟩ := H2.out.here (by omega)
        go_wp2_with fail
        go_meet
        exact ⟨50, b2.take 50, rfl, by omega, by omega, rfl, H2.out.upTo 50 (by omega)⟩
      · have hq' : decide ((50 : Int) < (len2 : Int)) = false := by simp; omega
        go_wp2_with fail
        go_meet
        exact ⟨len2, b2, rfl, by omega, hl2, rfl, H2.out⟩
    case rest =>
      obtain ⟨n2, s2, rfl, hn2, hnc2, rfl, HS2⟩ := hcut
      clear H1 H2 hl1 hl2
      go_wp2_with fail
      refine (HH.out.new a0 ⟨l0, u0⟩ HJ.out).mono ?_
      rintro e v2 (⟨hq, p, rfl, hj, hk⟩ | ⟨hq, rfl, hj, hk⟩)
      · have HJ : Hid (J v2 (fun k => k < w.heap.size) [(p, PFs.new a0.toNat)] []) := hj
        have HP : Hid (Kp (fun k => k < w.heap.size) w v2) := HP.out.trans hk (fun _ h => h)
        clear hj hk
        go_wp2_with fail
        refine (HG.out.new a0 ⟨l0, u0⟩ HJ.out).mono ?_
        rintro e v3 (⟨_, q, rfl, hj, hk⟩ | ⟨hq', _⟩)
        · have HJ : Hid (J v3 (fun k => k < w.heap.size) [(p, PFs.new a0.toNat)] [(q, PFs.new a0.toNat)]) := hj
          have HP : Hid (Kp (fun k => k < w.heap.size) w v3) := HP.out.trans hk (fun _ h => h)
          clear hj hk hq
          go_wp2_with fail
          go_loopw [12] (fun si wr => ∃ (k : Nat) (S : PFs), k ≤ n1 ∧ si = .int .i64 (k : Int) ∧ Hid (S.asked ≤ k) ∧ Hid (J wr (fun k => k < w.heap.size) [(p, S)] [(q, S)]) ∧ Hid (Kp (fun k => k < w.heap.size) w wr)) (fun i _ => n1 - (intOf i).toNat)
          case atStart => exact ⟨0, PFs.new a0.toNat, Nat.zero_le _, rfl, Nat.le_refl _, HJ.out, HP.out⟩
          case round =>
            obtain ⟨k, S, hk, rfl, HA, HJ, HP⟩ := hrel
            by_cases hlt : k < n1
            · obtain ⟨b, off, rfl, hc⟩ := (HS1.out.below (Nat.le_refl _) (HP.out.below (fun _ h => h) (Nat.le_refl _))).here (by omega)
              have hcc := hc k hlt
              obtain ⟨hok, hbc⟩ := HS1.out.ok k hlt
              generalize s1.getD k call0 = cv at hcc hok hbc
              have HO : Hid (cv.Ok w) := hok
              obtain ⟨kd, nm, tt, ba, bl, bc, bs, n, pa, pl, pc, ps⟩ := cv
              have c0 := hcc 0 _ rfl
              have c1 := hcc 1 _ rfl
              have c2 := hcc 2 _ rfl
              have c3 := hcc 3 _ rfl
              have c4 := hcc 4 _ rfl
              have c5 := hcc 5 _ rfl
              rw [Nat.add_zero] at c0
              have hx1 : (0 : Int) ≤ (k : Int) := by omega
              have hx2 : (k : Int) < (n1 : Int) := by omega
              clear hc hcc hok
              go_wp2_with fail
              refine (asked_any HH.out HG.out 0 0 ⟨kd, nm, tt, ba, bl, bc, bs, n, pa, pl, pc, ps⟩ HJ.out rfl rfl (by have := HA.out; omega) (HO.out.kept HP.out HO.out.old) HO.out.old hbc).mono ?_
              have HA' : Hid ((stepC S ⟨kd, nm, tt, ba, bl, bc, bs, n, pa, pl, pc, ps⟩).asked ≤ k + 1) := Nat.le_trans (stepC_asked S _) (Nat.succ_le_succ HA.out)
              generalize stepC S ⟨kd, nm, tt, ba, bl, bc, bs, n, pa, pl, pc, ps⟩ = S' at HA'
              rintro e v5 ⟨rfl, hj, hk5⟩
              have HJ5 : Hid (J v5 (fun k => k < w.heap.size) [(p, S')] [(q, S')]) := hj
              have HP5 : Hid (Kp (fun k => k < w.heap.size) w v5) := HP.out.trans hk5 (fun _ h => h)
              clear hj hk5 c0 c1 c2 c3 c4 c5
              go_wp2_with fail
              refine (alike_any HH.out HG.out 0 0 HJ5.out rfl rfl).mono ?_
              rintro e v6 ⟨rfl, hj, hk6⟩
              have HJ6 : Hid (J v6 (fun k => k < w.heap.size) [(p, S')] [(q, S')]) := hj
              have HP6 : Hid (Kp (fun k => k < w.heap.size) w v6) := HP5.out.trans hk6 (fun _ h => h)
              clear hj hk6
              go_wp2_with fail
              go_roundw
              case rel => exact ⟨k + 1, S', by omega, by go_num, HA'.out, HJ6.out, HP6.out⟩
              case measure => simp [intOf]; omega
            · go_wp2_with fail
              refine (HH.out.copy 0 HJ.out rfl).mono ?_
              rintro e v5 ⟨p', rfl, hj, hk5⟩
              have HJ5 : Hid (J v5 (fun k => k < w.heap.size) [(p, S), (p', S)] [(q, S)]) := hj
              have HP5 : Hid (Kp (fun k => k < w.heap.size) w v5) := HP.out.trans hk5 (fun _ h => h)
              clear hj hk5
              go_wp2_with fail
              refine (HG.out.copy 0 HJ5.out rfl).mono ?_
              rintro e v6 ⟨q', rfl, hj, hk6⟩
              have HJ6 : Hid (J v6 (fun k => k < w.heap.size) [(p, S), (p', S)] [(q, S), (q', S)]) := hj
              have HP6 : Hid (Kp (fun k => k < w.heap.size) w v6) := HP5.out.trans hk6 (fun _ h => h)
              clear hj hk6
              go_wp2_with fail
              go_loopw [17] (fun si wr => ∃ (k2 : Nat) (S2 : PFs), k2 ≤ n2 ∧ si = .int .i64 (k2 : Int) ∧ Hid (S2.asked ≤ k + k2) ∧ Hid (J wr (fun k => k < w.heap.size) [(p, S), (p', S2)] [(q, S), (q', S2)]) ∧ Hid (Kp (fun k => k < w.heap.size) w wr)) (fun i _ => n2 - (intOf i).toNat)
              case atStart => exact ⟨0, S, Nat.zero_le _, rfl, HA.out, HJ6.out, HP6.out⟩
              case round =>
                obtain ⟨k2, S2, hk2, rfl, HA2, HJ, HP⟩ := hrel
                by_cases hlt2 : k2 < n2
                · obtain ⟨b, off, rfl, hc⟩ := (HS2.out.below (Nat.le_refl _) (HP.out.below (fun _ h => h) (Nat.le_refl _))).here (by omega)
                  have hcc := hc k2 hlt2
                  obtain ⟨hok, hbc⟩ := HS2.out.ok k2 hlt2
                  generalize s2.getD k2 call0 = cv at hcc hok hbc
                  have HO : Hid (cv.Ok w) := hok
                  obtain ⟨kd, nm, tt, ba, bl, bc, bs, n, pa, pl, pc, ps⟩ := cv
                  have c0 := hcc 0 _ rfl
                  have c1 := hcc 1 _ rfl
                  have c2 := hcc 2 _ rfl
                  have c3 := hcc 3 _ rfl
                  have c4 := hcc 4 _ rfl
                  have c5 := hcc 5 _ rfl
                  rw [Nat.add_zero] at c0
                  have hx1 : (0 : Int) ≤ (k2 : Int) := by omega
                  have hx2 : (k2 : Int) < (n2 : Int) := by omega
                  clear hc hcc hok
                  go_wp2_with fail
                  refine (asked_any HH.out HG.out 1 1 ⟨kd, nm, tt, ba, bl, bc, bs, n, pa, pl, pc, ps⟩ HJ.out rfl rfl (by have := HA2.out; omega) (HO.out.kept HP.out HO.out.old) HO.out.old hbc).mono ?_
                  have HA' : Hid ((stepC S2 ⟨kd, nm, tt, ba, bl, bc, bs, n, pa, pl, pc, ps⟩).asked ≤ k + (k2 + 1)) := Nat.le_trans (stepC_asked S2 _) (Nat.succ_le_succ HA2.out)
                  generalize stepC S2 ⟨kd, nm, tt, ba, bl, bc, bs, n, pa, pl, pc, ps⟩ = S' at HA'
                  rintro e v7 ⟨rfl, hj, hk7⟩
                  have HJ7 : Hid (J v7 (fun k => k < w.heap.size) [(p, S), (p', S')] [(q, S), (q', S')]) := hj
                  have HP7 : Hid (Kp (fun k => k < w.heap.size) w v7) := HP.out.trans hk7 (fun _ h => h)
                  clear hj hk7 c0 c1 c2 c3 c4 c5
                  go_wp2_with fail
                  go_roundw
                  case rel => exact ⟨k2 + 1, S', by omega, by go_num, HA'.out, HJ7.out, HP7.out⟩
                  case measure => simp [intOf]; omega
                · go_wp2_with fail
                  refine (alike_any HH.out HG.out 1 1 HJ.out rfl rfl).mono ?_
                  rintro e v7 ⟨rfl, hj, hk7⟩
                  have HJ7 : Hid (J v7 (fun k => k < w.heap.size) [(p, S), (p', S2)] [(q, S), (q', S2)]) := hj
                  have HP7 : Hid (Kp (fun k => k < w.heap.size) w v7) := HP.out.trans hk7 (fun _ h => h)
                  clear hj hk7
                  go_wp2_with fail
                  refine (alike_any HH.out HG.out 0 0 HJ7.out rfl rfl).mono ?_
                  rintro e v8 ⟨rfl, hj, hk8⟩
                  have HP8 : Hid (Kp (fun k => k < w.heap.size) w v8) := HP7.out.trans hk8 (fun _ h => h)
                  clear hj hk8
                  go_wp2_with fail
                  go_ret
                  exact ⟨rfl, HP8.out.below (fun _ h => h) (Nat.le_refl _)⟩
        · exact absurd hq hq'
      · have HJ : Hid (J v2 (fun k => k < w.heap.size) [] []) := hj
        have HP : Hid (Kp (fun k => k < w.heap.size) w v2) := HP.out.trans hk (fun _ h => h)
        clear hj hk
        go_wp2_with fail
        refine (HG.out.new a0 ⟨l0, u0⟩ HJ.out).mono ?_
        rintro e v3 (⟨hq', _⟩ | ⟨_, rfl, hj, hk⟩)
        · exact absurd hq' hq
        · have HP : Hid (Kp (fun k => k < w.heap.size) w v3) := HP.out.trans hk (fun _ h => h)
          clear hj hk
          go_wp2_with fail
          go_ret
          exact ⟨rfl, HP.out.below (fun _ h => h) (Nat.le_refl _)⟩
end Go.Proofs.Ytkelahekfkhcfaa
