/- The contract of batch.Check: what is wrong with operations that begin with a number. -/
import Derived.Test.YtohhdbmkbfehfaaBOp
import Derived.LoopN
namespace Go.Proofs.Ytohhdbmkbfehfaa
open Go.RowKit
set_option maxRecDepth 100000 in
set_option maxHeartbeats 2000000 in
theorem bcheck_any (q : Nat) (a : Option Addr) (n c : Nat) (l : List Opn) (w : World) (hq : q < 18446744073709551616) (h : OpsAt w a n c l) :
    Calls Try.prog 13 #[.int .u64 (q : Int), .slice a n c] w fun e w' => e = .returned (.int .i64 ((bchk q l : Nat) : Int)) ∧ Below w.heap.size w w' := by
  have hs := h.size
  have hm := h.max
  have hl := h.le
  unfold maxLen at hm
  by_cases h1 : 64 < n
  · have HE : Hid (bchk q l = 30) := by unfold bchk Hid; rw [if_pos (by omega)]
    clear h hs
    go_enter Try.func13, Try.ntmps13
    go_wp2
    go_ret
    rw [HE.out]
    exact ⟨ret1 rfl, Below.refl _ _⟩
  · by_cases h3 : 0 < n
    · obtain ⟨r, rfl⟩ : ∃ r, n = r + 1 := ⟨n - 1, by omega⟩
      by_cases h4 : 72057594037927935 - r < q
      · have HE : Hid (bchk q l = 22) := by unfold bchk Hid; rw [if_neg (by omega), if_pos (by omega)]
        clear h hs
        go_enter Try.func13, Try.ntmps13
        go_wp2
        go_ret
        rw [HE.out]
        exact ⟨ret1 rfl, Below.refl _ _⟩
      · have HE : Hid (bchk q l = opsChk l) := by unfold bchk Hid; rw [if_neg (by omega), if_neg (by omega)]
        have H1 : Hid (OpsAt w a (r + 1) c l) := h
        have HS : Hid (l.length = r + 1) := hs
        clear h hs
        go_enter Try.func13, Try.ntmps13
        go_wp2
        go_loopw [23] (fun i wr => ∃ k : Nat, k ≤ r + 1 ∧ i = .int .i64 k ∧ Hid (opsChk l = opsChk (l.drop k)) ∧ Hid (Below w.heap.size w wr)) (fun i _ => r + 1 - (intOf i).toNat)
        case atStart => exact ⟨0, Nat.zero_le _, rfl, by simp [Hid], Below.refl _ _⟩
        case round =>
          obtain ⟨k, hk, rfl, HR, HB⟩ := hrel
          by_cases hlt : k < r + 1
          · obtain ⟨b, off, rfl, hc⟩ := (H1.out.below (Nat.le_refl _) HB.out).here (by omega)
            obtain ⟨p0, p1, p2⟩ := hc k hlt
            have HX : Hid (_ = _) := opsChk_at l k (by rw [HS.out]; exact hlt)
            have hsz := HB.out.size
            generalize l.getD k opn0 = x at p0 p1 p2 HX
            have hx1 : (0 : Int) ≤ (k : Int) := by omega
            have hx2 : (k : Int) < (r : Int) + 1 := by omega
            clear hc
            have hcc := checkOp_any x.kind x.key x.val
            have ex : (⟨x.kind, x.key, x.val⟩ : Opn) = x := rfl
            rw [ex] at hcc
            by_cases g : opChk x = 0
            · have HC : Hid (opChk x = 0) := g
              rw [g] at hcc
              have HCC : Hid (∀ W, _) := hcc
              clear hcc g ex
              go_wp2_with fail
              refine (HCC.out _).mono ?_
              rintro e w1 ⟨rfl, hb1⟩
              have HB1 : Hid (Below w.heap.size w w1) := (HB.out.alloc hsz _).trans (hb1.mono (by simp; omega))
              clear hb1 p0 p1 p2
              go_wp2_with fail
              go_roundw
              case rel => exact ⟨k + 1, by omega, by go_num, by unfold Hid; rw [HR.out, HX.out, if_pos HC.out], HB1.out⟩
              case measure => simp [intOf]; omega
            · have HC : Hid (opsChk (l.drop k) = opChk x) := by unfold Hid; rw [HX.out, if_neg g]
              have hne : (((opChk x : Nat) : Int) != 0) = true := by simp; omega
              clear HX ex g
              generalize opChk x = z at hne hcc HC
              have HCC : Hid (∀ W, _) := hcc
              clear hcc
              go_wp2_with fail
              refine (HCC.out _).mono ?_
              rintro e w1 ⟨rfl, hb1⟩
              have HB1 : Hid (Below w.heap.size w w1) := (HB.out.alloc hsz _).trans (hb1.mono (by simp; omega))
              clear hb1 p0 p1 p2
              go_wp2_with fail
              go_ret
              rw [HE.out, HR.out, HC.out]
              exact ⟨ret1 rfl, HB1.out⟩
          · have HX : Hid (opsChk (l.drop k) = 0) := opsChk_end l k (by rw [HS.out]; omega)
            go_wp2
            go_ret
            rw [HE.out, HR.out, HX.out]
            exact ⟨ret1 rfl, HB.out⟩
    · obtain rfl : n = 0 := by omega
      by_cases h2 : 72057594037927935 < q
      · have HE : Hid (bchk q l = 22) := by unfold bchk Hid; rw [if_neg (by omega), if_pos (by omega)]
        have h2' : decide ((72057594037927935 : Int) < (q : Int)) = true := by simp; omega
        clear h hs
        go_enter Try.func13, Try.ntmps13
        go_wp2
        go_ret
        rw [HE.out]
        exact ⟨ret1 rfl, Below.refl _ _⟩
      · have h2' : decide ((72057594037927935 : Int) < (q : Int)) = false := by simp; omega
        have HE : Hid (bchk q l = 0) := by
          unfold bchk Hid
          rw [if_neg (by omega), if_neg (by omega), List.eq_nil_of_length_eq_zero hs]
          rfl
        clear h hs
        go_enter Try.func13, Try.ntmps13
        go_wp2
        refine wp_loop_rounds 1 ?_
        rw [rounds_succ]
        go_wp2
        go_ret
        rw [HE.out]
        exact ⟨ret1 rfl, Below.refl _ _⟩
end Go.Proofs.Ytohhdbmkbfehfaa
