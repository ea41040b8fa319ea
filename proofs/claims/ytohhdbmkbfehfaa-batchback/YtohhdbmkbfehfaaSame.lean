/- The contract of the document's own Same: two lists of operations. -/
import Derived.Test.YtohhdbmkbfehfaaOps
namespace Go.Proofs.Ytohhdbmkbfehfaa
open Go.RowKit
set_option maxRecDepth 100000 in
set_option maxHeartbeats 1000000 in
theorem same_any (a1 a2 : Option Addr) (n1 c1 n2 c2 : Nat) (l m : List Opn) (w : World) (h1 : OpsAt w a1 n1 c1 l) (h2 : OpsAt w a2 n2 c2 m) :
    Calls Try.prog 12 #[.slice a1 n1 c1, .slice a2 n2 c2] w fun e w' => e = .returned (.bool (opsEq l m)) ∧ Below w.heap.size w w' := by
  have hs1 := h1.size
  have hs2 := h2.size
  have hm1 := h1.max
  have hl1 := h1.le
  have hm2 := h2.max
  have hl2 := h2.le
  unfold maxLen at hm1 hm2
  by_cases hn : n1 = n2
  · subst hn
    have H1 : Hid (OpsAt w a1 n1 c1 l) := h1
    have H2 : Hid (OpsAt w a2 n1 c2 m) := h2
    have HS1 : Hid (l.length = n1) := hs1
    have HS2 : Hid (m.length = n1) := hs2
    clear h1 h2 hs1 hs2
    go_enter Try.func12, Try.ntmps12
    go_wp2
    go_loopw [5] (fun i wr => ∃ k : Nat, k ≤ n1 ∧ i = .int .i64 k ∧ Hid (opsEq l m = opsEq (l.drop k) (m.drop k)) ∧ Hid (Below w.heap.size w wr)) (fun i _ => n1 - (intOf i).toNat)
    case atStart => exact ⟨0, Nat.zero_le _, rfl, by simp [Hid], Below.refl _ _⟩
    case round =>
      obtain ⟨k, hk, rfl, HR, HB⟩ := hrel
      by_cases hlt : k < n1
      · obtain ⟨b1, o1, rfl, hc1⟩ := (H1.out.below (Nat.le_refl _) HB.out).here (by omega)
        obtain ⟨b2, o2, rfl, hc2⟩ := (H2.out.below (Nat.le_refl _) HB.out).here (by omega)
        obtain ⟨p0, p1, p2⟩ := hc1 k hlt
        obtain ⟨r0, r1, r2⟩ := hc2 k hlt
        have HE : Hid (opsEq (l.drop k) (m.drop k) = (opEq (l.getD k opn0) (m.getD k opn0) && opsEq (l.drop (k + 1)) (m.drop (k + 1)))) := by
          unfold Hid
          rw [drop_op l k (by rw [HS1.out]; exact hlt), drop_op m k (by rw [HS2.out]; exact hlt)]
          rfl
        generalize l.getD k opn0 = x at p0 p1 p2 HE
        generalize m.getD k opn0 = y at r0 r1 r2 HE
        obtain ⟨xa, xb, xc⟩ := x
        obtain ⟨ya, yb, yc⟩ := y
        have hq := run_neq_op xa ya xb xc yb yc
        clear hc1 hc2
        generalize opEq ⟨xa, xb, xc⟩ ⟨ya, yb, yc⟩ = E at hq HE
        have hk1 : (0 : Int) ≤ (k : Int) := by omega
        have hk2 : (k : Int) < (n1 : Int) := by omega
        cases E with
        | true =>
          go_wp2
          go_region
          go_wp2
          go_roundw
          case rel => exact ⟨k + 1, by omega, by go_num, by unfold Hid; rw [HR.out, HE.out]; rfl, HB.out.drew⟩
          case measure => simp [intOf]; omega
        | false =>
          go_wp2
          go_region
          go_wp2
          go_ret
          exact ⟨ret1 (by rw [HR.out, HE.out]; rfl), HB.out.drew⟩
      · have HE : Hid (opsEq l m = true) := by
          unfold Hid
          rw [HR.out, List.drop_eq_nil_of_le (by rw [HS1.out]; omega), List.drop_eq_nil_of_le (by rw [HS2.out]; omega)]
          rfl
        go_wp2
        go_ret
        rw [HE.out]
        exact ⟨ret1 rfl, HB.out⟩
  · have HE : Hid (opsEq l m = false) := by
      unfold Hid
      rw [Bool.eq_false_iff, Ne, opsEq_iff]
      intro e
      rw [e] at hs1
      omega
    have hn' : ((n1 : Int) != (n2 : Int)) = true := by simp; omega
    clear h1 h2 hs1 hs2
    go_enter Try.func12, Try.ntmps12
    go_wp2
    go_ret
    rw [HE.out]
    exact ⟨ret1 rfl, Below.refl _ _⟩
end Go.Proofs.Ytohhdbmkbfehfaa
