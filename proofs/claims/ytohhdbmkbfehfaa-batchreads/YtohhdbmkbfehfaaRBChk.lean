/- The contract of the document's own Check of a batch. -/
import Derived.Test.YtohhdbmkbfehfaaPlainBatch
import Derived.Test.YtohhdbmkbfehfaaRec
import Derived.LoopN
namespace Go.Proofs.Ytohhdbmkbfehfaa
open Go.RowKit
set_option maxRecDepth 100000 in
set_option maxHeartbeats 2000000 in
theorem rbcheck_any (q : Nat) (a : Option Addr) (n c : Nat) (l : List Opn) (w : World) (hq : q < 18446744073709551616) (h : OpsAt w a n c l) :
    Calls Try.prog 14 #[.int .u64 (q : Int), .slice a n c] w fun e w' => e = .returned (.int .i64 ((bchk q l : Nat) : Int)) ∧ Below w.heap.size w w' := by
  have hs := h.size
  have hm := h.max
  have hl := h.le
  unfold maxLen at hm
  by_cases h1 : 64 < n
  · have HE : Hid (bchk q l = 30) := by unfold bchk Hid; rw [if_pos (by omega)]
    clear h hs
    go_enter Try.func14, Try.ntmps14
    go_wp2
    go_ret
    rw [HE.out]
    exact ⟨ret1 rfl, Below.refl _ _⟩
  · by_cases h2 : 72057594037927935 < q
    · have HE : Hid (bchk q l = 22) := by unfold bchk Hid; rw [if_neg (by omega), if_pos (by omega)]
      have h2' : decide ((72057594037927935 : Int) < (q : Int)) = true := by simp; omega
      clear h hs
      go_enter Try.func14, Try.ntmps14
      go_wp2
      go_ret
      rw [HE.out]
      exact ⟨ret1 rfl, Below.refl _ _⟩
    · have h2' : decide ((72057594037927935 : Int) < (q : Int)) = false := by simp; omega
      by_cases h3 : 0 < n
      · have h3' : decide ((0 : Int) < (n : Int)) = true := by simp; omega
        obtain ⟨r, rfl⟩ : ∃ r, n = r + 1 := ⟨n - 1, by omega⟩
        by_cases h4 : 72057594037927935 - r < q
        · have HE : Hid (bchk q l = 22) := by unfold bchk Hid; rw [if_neg (by omega), if_pos (by omega)]
          clear h hs
          go_enter Try.func14, Try.ntmps14
          go_wp2
          go_ret
          rw [HE.out]
          exact ⟨ret1 rfl, Below.refl _ _⟩
        · have HE : Hid (bchk q l = opsChk l) := by unfold bchk Hid; rw [if_neg (by omega), if_neg (by omega)]
          have H1 : Hid (OpsAt w a (r + 1) c l) := h
          have HS : Hid (l.length = r + 1) := hs
          clear h hs
          go_enter Try.func14, Try.ntmps14
          go_wp2
          go_loopw [5] (fun i wr => ∃ k : Nat, k ≤ r + 1 ∧ i = .int .i64 k ∧ Hid (opsChk l = opsChk (l.drop k)) ∧ Hid (Below w.heap.size w wr)) (fun i _ => r + 1 - (intOf i).toNat)
          case atStart => exact ⟨0, Nat.zero_le _, rfl, by simp [Hid], Below.refl _ _⟩
          case round =>
            obtain ⟨k, hk, rfl, HR, HB⟩ := hrel
            by_cases hlt : k < r + 1
            · obtain ⟨b, off, rfl, hc⟩ := (H1.out.below (Nat.le_refl _) HB.out).here (by omega)
              obtain ⟨p0, p1, p2⟩ := hc k hlt
              have HX : Hid (_ = _) := opsChk_at l k (by rw [HS.out]; exact hlt)
              have hsz := HB.out.size
              generalize l.getD k opn0 = x at p0 p1 p2 HX
              have hx1 : (0 : Int) ≤ (k : Int) := by omega
              have hx2 : (k : Int) < (r : Int) + 1 := by omega
              clear hc
              by_cases g1 : x.kind = 0 ∨ x.kind = 1
              · by_cases g2 : 64 < x.key.size
                · have HC : Hid (opChk x = 21) := opChk_key g1 g2
                  rcases g1 with g1 | g1
                  · rw [g1] at p0
                    go_wp2
                    go_ret
                    rw [HE.out, HR.out, HX.out, if_neg (by rw [HC.out]; decide), HC.out]
                    exact ⟨ret1 rfl, HB.out.alloc hsz _⟩
                  · rw [g1] at p0
                    go_wp2
                    go_ret
                    rw [HE.out, HR.out, HX.out, if_neg (by rw [HC.out]; decide), HC.out]
                    exact ⟨ret1 rfl, HB.out.alloc hsz _⟩
                · rcases g1 with g1 | g1
                  · by_cases g3 : 0 < x.val.size
                    · have HC : Hid (opChk x = 31) := opChk_val (.inl g1) g2 (.inr ⟨g1, g3⟩)
                      rw [g1] at p0
                      by_cases g4 : 1000 < x.val.size
                      · have g4' : decide ((1000 : Int) < (x.val.size : Int)) = true := by simp; omega
                        go_wp2
                        go_ret
                        rw [HE.out, HR.out, HX.out, if_neg (by rw [HC.out]; decide), HC.out]
                        exact ⟨ret1 rfl, HB.out.alloc hsz _⟩
                      · have g4' : decide ((1000 : Int) < (x.val.size : Int)) = false := by simp; omega
                        have g3' : decide ((0 : Int) < (x.val.size : Int)) = true := decide_eq_true (by omega)
                        go_wp2
                        go_ret
                        rw [HE.out, HR.out, HX.out, if_neg (by rw [HC.out]; decide), HC.out]
                        exact ⟨ret1 rfl, HB.out.alloc hsz _⟩
                    · have HC : Hid (opChk x = 0) := opChk_ok (.inl g1) g2 (no31_0 g3)
                      rw [g1] at p0
                      have g4' : decide ((1000 : Int) < (x.val.size : Int)) = false := by simp; omega
                      have g3' : decide ((0 : Int) < (x.val.size : Int)) = false := decide_eq_false (by omega)
                      go_wp2
                      go_roundw
                      case rel => exact ⟨k + 1, by omega, by go_num, by unfold Hid; rw [HR.out, HX.out, if_pos HC.out], HB.out.alloc hsz _⟩
                      case measure => simp [intOf]; omega
                  · by_cases g4 : 1000 < x.val.size
                    · have HC : Hid (opChk x = 31) := opChk_val (.inr g1) g2 (.inl g4)
                      rw [g1] at p0
                      have g4' : decide ((1000 : Int) < (x.val.size : Int)) = true := by simp; omega
                      go_wp2
                      go_ret
                      rw [HE.out, HR.out, HX.out, if_neg (by rw [HC.out]; decide), HC.out]
                      exact ⟨ret1 rfl, HB.out.alloc hsz _⟩
                    · have HC : Hid (opChk x = 0) := opChk_ok (.inr g1) g2 (no31_1 g4 (by rw [g1]; decide))
                      rw [g1] at p0
                      have g4' : decide ((1000 : Int) < (x.val.size : Int)) = false := by simp; omega
                      go_wp2
                      go_roundw
                      case rel => exact ⟨k + 1, by omega, by go_num, by unfold Hid; rw [HR.out, HX.out, if_pos HC.out], HB.out.alloc hsz _⟩
                      case measure => simp [intOf]; omega
              · have HC : Hid (opChk x = 23) := opChk_kind g1
                have g2' : (x.kind != 0) = true := by simp; omega
                have g3' : (x.kind != 1) = true := by simp; omega
                go_wp2
                go_ret
                rw [HE.out, HR.out, HX.out, if_neg (by rw [HC.out]; decide), HC.out]
                exact ⟨ret1 rfl, HB.out.alloc hsz _⟩
            · have HX : Hid (opsChk (l.drop k) = 0) := opsChk_end l k (by rw [HS.out]; omega)
              go_wp2
              go_ret
              rw [HE.out, HR.out, HX.out]
              exact ⟨ret1 rfl, HB.out⟩
      · obtain rfl : n = 0 := by omega
        have HE : Hid (bchk q l = 0) := by
          unfold bchk Hid
          rw [if_neg (by omega), if_neg (by omega), List.eq_nil_of_length_eq_zero hs]
          rfl
        clear h hs
        go_enter Try.func14, Try.ntmps14
        go_wp2
        refine wp_loop_rounds 1 ?_
        rw [rounds_succ]
        go_wp2
        go_ret
        rw [HE.out]
        exact ⟨ret1 rfl, Below.refl _ _⟩
end Go.Proofs.Ytohhdbmkbfehfaa
