/- BumpPlays: the walk. -/
import Derived.Test.YtedddgkdpeielaaB6Ask
import Derived.Deep.DeepCutAuto
import Derived.Deep.RegionWith
import Derived.BigQuiet
namespace Go.Proofs.Ytedddgkdpeielaa
open Go.RowKit
set_option linter.unusedVariables false
theorem below_drewN {B : Nat} {a w : World} (h : Below B a w) (n : Nat) : Below B a (w.drewN n) := ⟨h.os, h.tape, h.output, h.size, h.block⟩
theorem slice_h0 (gb s n : Nat) (h : n ≤ s) (W : World) : (Instr.slice 32 (.slice (some ⟨gb, 0, none⟩) s s) none (some (.int .i64 (n : Int))) none).run Try.prog W = .ok (.slice (some ⟨gb, 0, none⟩) n s) W := by
  have he : Try.prog.elem 32 = 5 := by simp only [Program.elem, Try.underlying32]
  have hs : (sizeOf 5).run Try.prog W = .ok 1 W := by
    obtain ⟨i, hi, _, h1, _⟩ := info_parts infoU8
    simp [sizeOf, typeInfo, hi, h1]
  rw [run_slice_h W 32 (some ⟨gb, 0, none⟩) s s (by rw [he]; exact Try.underlying32) .i64 (n : Int) (by omega) (by omega), he, hs]
  simp only [Result.andThen, sliced, Int.toNat_natCast]
  by_cases h0 : s = 0
  · rw [if_pos h0]
    simp
  · rw [if_neg h0, Option.map_some, Addr.add_lit]
    simp
theorem new_both {w0 w1 w2 w3 : World} {q s : Nat} (hb1 : Below w0.heap.size w0 w1) (h2 : ArAt w2 w1.heap.size (PA.new s)) (hb2 : Below w1.heap.size w1 w2) (h3 : RfAt w3 w2.heap.size q w2.heap.size none 0 (PA.new s)) (hb3 : Below w2.heap.size w2 w3) : Both w0 w3 w1.heap.size q (PA.new s) := by
  have s1 := hb1.size
  have s2 := hb2.size
  have s3 := h3.hq
  refine ⟨h2.below hb3, ⟨w2.heap.size, none, 0, h3.box, h3.row, OwnN.nil _ _, h3.inv, by omega, by omega⟩, by omega, (hb1.trans (hb2.mono s1)).trans (hb3.mono (by omega))⟩
set_option maxRecDepth 100000 in
set_option maxHeartbeats 4000000 in
theorem bumpPlays_walk (a0 : Int) (a1 : Option Addr) (len1 cap1 : Nat) (l : List CallV) (w : World) (hz : (Lit.int .i64 a0).wf = true) (hl : CsAt w a1 len1 cap1 l) : Calls Try.prog 4 #[.int .i64 a0, .slice a1 len1 cap1] w fun e w' => e = .returned (.bool true) ∧ Below w.heap.size w w' := by
  have HL : Hid (CsAt w a1 len1 cap1 l) := hl
  have h1 := hl.le
  have h2 := hl.max
  unfold maxLen at h2
  clear hl hz
  by_cases hs : a0 < 0 ∨ 65536 < a0
  · have HS : Hid (a0 < 0 ∨ 65536 < a0) := hs
    clear hs
    go_enter Try.func4, Try.ntmps4
    go_wp2_with fail
    refine (awake_any _).mono ?_
    rintro _ w1 ⟨rfl, hb1⟩
    go_wp2_with fail
    refine (new_no a0 HS.out).mono ?_
    rintro _ w2 ⟨rfl, hw⟩
    obtain rfl := hw.symm
    clear hw
    go_wp2_with fail
    refine (rnew_no a0 HS.out).mono ?_
    rintro _ w2 ⟨rfl, hw⟩
    obtain rfl := hw.symm
    clear hw
    go_wp2
    go_returns
    exact ⟨rfl, hb1⟩
  · obtain ⟨s, rfl⟩ : ∃ s : Nat, a0 = s := ⟨a0.toNat, by omega⟩
    have HS : Hid (s ≤ 65536) := by unfold Hid; omega
    clear hs
    go_enter Try.func4, Try.ntmps4
    go_wp2_with fail
    refine (awake_any _).mono ?_
    rintro _ w1 ⟨rfl, hb1⟩
    have HB1 : Hid (Below w.heap.size w w1) := hb1
    clear hb1
    go_wp2_with fail
    refine (new_at s HS.out).mono ?_
    rintro _ w2 ⟨rfl, a2, hb2, _⟩
    go_wp2_with fail
    refine (rnew_at s HS.out).mono ?_
    rintro _ w3 ⟨q, rfl, a3, hb3⟩
    have HB0 : Hid (∃ A, Both w w3 w1.heap.size q A) := ⟨_, new_both HB1.out a2 hb2 a3 hb3⟩
    obtain ⟨p, hp⟩ : ∃ p, Hid (p = w1.heap.size) := ⟨_, rfl⟩
    rw [← hp.out] at HB0 ⊢
    clear a2 hb2 a3 hb3 HB1 hp
    go_wp2_with fail
    go_loopw [10] (fun i wr => ∃ (k : Nat), k ≤ len1 ∧ i = .int .i64 (k : Int) ∧ Hid (∃ A, Both w wr p q A)) (fun i _ => len1 - (intOf i).toNat)
    case atStart => exact ⟨0, Nat.zero_le _, rfl, HB0⟩
    case round =>
      obtain ⟨k, hk, rfl, HB⟩ := hrel
      clear HB0
      obtain ⟨A, HA⟩ : ∃ A, Hid (Both w wr p q A) := HB.out
      clear HB
      by_cases hlt : k < len1
      · obtain ⟨b, off, rfl, hc⟩ := (HL.out.below (Nat.le_refl _) HA.out.base).here (by omega)
        have hcc := hc k hlt
        obtain ⟨hok, hbc⟩ := HL.out.ok k hlt
        generalize l.getD k call0 = cv at hcc hok hbc
        have HO : Hid (cv.Ok w ∧ cv.bc ≤ 140737488351232) := ⟨hok, hbc⟩
        obtain ⟨kd, pos, n, m, ba, bl, bc, bs⟩ := cv
        have c0 := hcc 0 _ rfl
        have c1 := hcc 1 _ rfl
        have c2 := hcc 2 _ rfl
        have c3 := hcc 3 _ rfl
        have c4 := hcc 4 _ rfl
        rw [Nat.add_zero] at c0
        have hx1 : (0 : Int) ≤ (k : Int) := by omega
        have hx2 : (k : Int) < (len1 : Int) := by omega
        clear hc hcc hok hbc
        go_wp2_with fail
        refine (asked_any HA.out ⟨kd, pos, n, m, ba, bl, bc, bs⟩ HO.out.1 HO.out.2).mono ?_
        rintro _ w5 ⟨rfl, A5, hb5⟩
        have HA5 : Hid (Both w w5 p q A5) := hb5
        clear hb5 c0 c1 c2 c3 c4
        obtain ⟨gb, ac, cc, hr⟩ := HA5.out.rf
        have d1 := hr.d1
        have hq : q < w5.heap.size := hr.box.lt
        clear hr
        generalize hu : A5.used = u at d1
        have HU : Hid (A5.used = u) := hu
        clear hu
        go_upto_region 12 with fail
        go_cut [64] (fun t wz => t = .bool false ∧ Hid (∃ A, Both w wz p q A))
        case first =>
          go_region_with (go_at_call 12; refine (used_at HA5.out.ar.drew).mono ?_; rintro e w6 ⟨rfl, hw⟩; obtain rfl := hw.symm; clear hw; rw [HU.out])
          all_goals
            go_wp2_with fail
            go_meet
            exact ⟨by simp, A5, HA5.out.low (Nat.le_refl _) (Below.refl _ _).drew⟩
        case rest =>
          obtain ⟨rfl, HB6⟩ := hcut
          go_wp2
          go_roundw
          case rel => exact ⟨k + 1, by omega, by go_num, HB6⟩
          case measure => simp [intOf]; omega
      · obtain rfl : k = len1 := by omega
        obtain ⟨gb, ac, cc, hr⟩ := HA.out.rf
        have i1 := HA.out.ar.inv.used
        have i2 := HA.out.ar.inv.size
        have d1 := hr.d1
        have HRW : Hid (RfAt wr w.heap.size q gb ac cc A) := hr
        have hq : q < wr.heap.size := hr.box.lt
        obtain ⟨u, hu⟩ : ∃ u, Hid (u = A.used) := ⟨_, rfl⟩
        rw [← hu.out] at d1 i1
        obtain ⟨s2, hs2⟩ : ∃ s2, Hid (s2 = A.bytes.length) := ⟨_, rfl⟩
        rw [← hs2.out] at i1 i2
        have HG : Hid (A.get 0 (u : Int) = (A.bytes.take u, 0)) := by
          have hf : A.fits 0 (u : Int) = true := by rw [hu.out]; simp [PA.fits]
          unfold Hid PA.get
          rw [if_pos hf]
          simp
        clear hr
        go_wp2_with fail
        refine (get_at HA.out.ar 0 (u : Int) (in64_lit (by omega))).mono ?_
        rintro _ w6 ⟨a6, l6, c6, rfl, o6, _, hb6⟩
        rw [HG.out] at o6 ⊢
        have hr6 := HRW.out.below hb6
        have d0 := hr6.d0
        have d1 := hr6.d1
        rw [← hs2.out] at d0
        rw [← hu.out] at d1
        have hb7 : BsAt w6 (some ⟨gb, 0, none⟩) u s2 (A.bytes.take u) := by
          have := row_bs hr6.row 0 u s2 (by rw [← hs2.out]; omega) i1 i2
          simpa using this
        have hsl := slice_h0 gb s2 u i1
        have hdn : ∀ nq, Below w6.heap.size w6 (w6.drewN nq) := fun _ => ⟨rfl, rfl, rfl, Nat.le_refl _, fun _ _ => rfl⟩
        have hv1 : ∀ nq, (convert 32 9 (.slice a6 l6 c6)).run Try.prog (w6.drewN nq) = .ok (.string (strOf (A.bytes.take u))) (w6.drewN nq) := fun nq => conv_of (o6.bs.below (Nat.le_refl _) (hdn nq))
        have hv2 : ∀ nq, (convert 32 9 (.slice (some ⟨gb, 0, none⟩) u s2)).run Try.prog (w6.drewN nq) = .ok (.string (strOf (A.bytes.take u))) (w6.drewN nq) := fun nq => conv_of (hb7.below (Nat.le_refl _) (hdn nq))
        have HFIN : Hid (Below w.heap.size w w6) := HA.out.base.trans (hb6.mono HA.out.base.size)
        have hq6 : q < w6.heap.size := hr6.box.lt
        generalize strOf (A.bytes.take u) = str at hv1 hv2
        clear hr6 hb7 o6 hb6 hdn
        go_wp2
        go_quiet (fail)
        go_wp2
        go_returns
        exact ⟨by simp, below_drewN HFIN.out _⟩
end Go.Proofs.Ytedddgkdpeielaa
