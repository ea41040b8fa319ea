/- The contract of batch.checkOp: what is wrong with one operation. -/
import Derived.Test.YtohhdbmkbfehfaaPlainBatch
import Derived.Test.YtohhdbmkbfehfaaRec
namespace Go.Proofs.Ytohhdbmkbfehfaa
open Go.RowKit
set_option maxRecDepth 100000 in
set_option maxHeartbeats 1000000 in
theorem checkOp_any (k : Int) (s t : ByteArray) (w : World) :
    Calls Try.prog 21 #[.agg #[.int .i64 k, .string s, .string t]] w fun e w' => e = .returned (.int .i64 ((opChk ⟨k, s, t⟩ : Nat) : Int)) ∧ Below w.heap.size w w' := by
  by_cases g1 : k = 0 ∨ k = 1
  · by_cases g2 : 64 < s.size
    · have HC : Hid (opChk ⟨k, s, t⟩ = 21) := opChk_key g1 g2
      rcases g1 with rfl | rfl
      · go_enter Try.func21, Try.ntmps21
        go_wp2
        go_ret
        rw [HC.out]
        exact ⟨ret1 rfl, (Below.refl _ _).alloc (Nat.le_refl _) _⟩
      · go_enter Try.func21, Try.ntmps21
        go_wp2
        go_ret
        rw [HC.out]
        exact ⟨ret1 rfl, (Below.refl _ _).alloc (Nat.le_refl _) _⟩
    · by_cases g4 : 1000 < t.size
      · have HC : Hid (opChk ⟨k, s, t⟩ = 31) := opChk_val g1 g2 (.inl g4)
        have g4' : decide ((1000 : Int) < (t.size : Int)) = true := by simp; omega
        rcases g1 with rfl | rfl
        · go_enter Try.func21, Try.ntmps21
          go_wp2
          go_ret
          rw [HC.out]
          exact ⟨ret1 rfl, (Below.refl _ _).alloc (Nat.le_refl _) _⟩
        · go_enter Try.func21, Try.ntmps21
          go_wp2
          go_ret
          rw [HC.out]
          exact ⟨ret1 rfl, (Below.refl _ _).alloc (Nat.le_refl _) _⟩
      · have g4' : decide ((1000 : Int) < (t.size : Int)) = false := by simp; omega
        rcases g1 with rfl | rfl
        · by_cases g3 : 0 < t.size
          · have HC : Hid (opChk ⟨0, s, t⟩ = 31) := opChk_val (.inl rfl) g2 (.inr ⟨rfl, g3⟩)
            have g5 : (t.toList == ([] : List UInt8)) = false := by
              rw [ByteArray.toList_eq]
              cases hd : t.data.toList with
              | nil =>
                have : t.size = t.data.toList.length := by rw [Array.length_toList]; rfl
                rw [hd, List.length_nil] at this
                omega
              | cons c r => rfl
            go_enter Try.func21, Try.ntmps21
            go_wp2
            go_ret
            rw [HC.out]
            exact ⟨ret1 rfl, (Below.refl _ _).alloc (Nat.le_refl _) _⟩
          · have HC : Hid (opChk ⟨0, s, t⟩ = 0) := opChk_ok (.inl rfl) g2 (no31_0 g3)
            obtain rfl : t = ByteArray.empty := by
              cases t with
              | mk d =>
                have : d = #[] := Array.eq_empty_of_size_eq_zero (Nat.le_zero.1 (Nat.not_lt.1 g3))
                rw [this]; rfl
            go_enter Try.func21, Try.ntmps21
            go_wp2
            go_ret
            rw [HC.out]
            exact ⟨ret1 rfl, (Below.refl _ _).alloc (Nat.le_refl _) _⟩
        · have HC : Hid (opChk ⟨1, s, t⟩ = 0) := opChk_ok (.inr rfl) g2 (no31_1 g4 (fun e => absurd (show (1 : Int) = 0 from e) (by decide)))
          go_enter Try.func21, Try.ntmps21
          go_wp2
          go_ret
          rw [HC.out]
          exact ⟨ret1 rfl, (Below.refl _ _).alloc (Nat.le_refl _) _⟩
  · have HC : Hid (opChk ⟨k, s, t⟩ = 23) := opChk_kind g1
    have g2' : (k != 0) = true := by simp; omega
    have g3' : (k != 1) = true := by simp; omega
    go_enter Try.func21, Try.ntmps21
    go_wp2
    go_ret
    rw [HC.out]
    exact ⟨ret1 rfl, (Below.refl _ _).alloc (Nat.le_refl _) _⟩
end Go.Proofs.Ytohhdbmkbfehfaa
