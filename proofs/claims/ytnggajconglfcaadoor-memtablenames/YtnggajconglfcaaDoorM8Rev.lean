/- The contracts of math/bits.ReverseBytes64 and of memtable's falling and rising. -/
import Derived.Test.YtnggajconglfcaaDoorChecked
import Derived.Test.YtnggajconglfcaaDoorM8Enc
import Derived.Test.YtnggajconglfcaaDoorBits
import Derived.Test.YtnggajconglfcaaDoorMem
namespace Go.Proofs.YtnggajconglfcaaDoor
open Go.RowKit
set_option linter.unusedVariables false
theorem wrap_nat64 {x : Nat} (h : x < 18446744073709551616) : IntKind.u64.wrap (x : Int) = (x : Int) := by
  rw [IntKind.wrap_u64]
  omega
theorem rstep1 {n : Nat} (hn : n < 18446744073709551616) : bits .or .u64 (bits .and .u64 ((n : Int) / 256) 71777214294589695) (IntKind.u64.wrap (bits .and .u64 (n : Int) 71777214294589695 * 256)) = ((rv1 n : Nat) : Int) := by
  have e1 : (n : Int) / (256 : Int) = ((n >>> 8 : Nat) : Int) := by rw [Nat.shiftRight_eq_div_pow]; omega
  have h1 : n >>> 8 < 18446744073709551616 := by rw [Nat.shiftRight_eq_div_pow]; omega
  have e2 : bits .and .u64 ((n >>> 8 : Nat) : Int) 71777214294589695 = ((n >>> 8 &&& 71777214294589695 : Nat) : Int) := nbits_and64 _ 71777214294589695 h1 (by decide)
  have e3 : bits .and .u64 (n : Int) 71777214294589695 = ((n &&& 71777214294589695 : Nat) : Int) := nbits_and64 _ 71777214294589695 hn (by decide)
  have l3 : n &&& 71777214294589695 ≤ 71777214294589695 := Nat.and_le_right
  have l2 : n >>> 8 &&& 71777214294589695 ≤ 71777214294589695 := Nat.and_le_right
  have e4 : ((n &&& 71777214294589695 : Nat) : Int) * (256 : Int) = (((n &&& 71777214294589695) <<< 8 : Nat) : Int) := by rw [Nat.shiftLeft_eq]; omega
  have l4 : (n &&& 71777214294589695) <<< 8 < 18446744073709551616 := by rw [Nat.shiftLeft_eq]; omega
  rw [e1, e2, e3, e4, wrap_nat64 l4, nbits_or64 _ _ (by omega) l4]
  rfl
theorem rstep2 {n : Nat} (hn : n < 18446744073709551616) : bits .or .u64 (bits .and .u64 ((n : Int) / 65536) 281470681808895) (IntKind.u64.wrap (bits .and .u64 (n : Int) 281470681808895 * 65536)) = ((rv2 n : Nat) : Int) := by
  have e1 : (n : Int) / (65536 : Int) = ((n >>> 16 : Nat) : Int) := by rw [Nat.shiftRight_eq_div_pow]; omega
  have h1 : n >>> 16 < 18446744073709551616 := by rw [Nat.shiftRight_eq_div_pow]; omega
  have e2 : bits .and .u64 ((n >>> 16 : Nat) : Int) 281470681808895 = ((n >>> 16 &&& 281470681808895 : Nat) : Int) := nbits_and64 _ 281470681808895 h1 (by decide)
  have e3 : bits .and .u64 (n : Int) 281470681808895 = ((n &&& 281470681808895 : Nat) : Int) := nbits_and64 _ 281470681808895 hn (by decide)
  have l3 : n &&& 281470681808895 ≤ 281470681808895 := Nat.and_le_right
  have l2 : n >>> 16 &&& 281470681808895 ≤ 281470681808895 := Nat.and_le_right
  have e4 : ((n &&& 281470681808895 : Nat) : Int) * (65536 : Int) = (((n &&& 281470681808895) <<< 16 : Nat) : Int) := by rw [Nat.shiftLeft_eq]; omega
  have l4 : (n &&& 281470681808895) <<< 16 < 18446744073709551616 := by rw [Nat.shiftLeft_eq]; omega
  rw [e1, e2, e3, e4, wrap_nat64 l4, nbits_or64 _ _ (by omega) l4]
  rfl
theorem rstep3 {n : Nat} (hn : n < 18446744073709551616) : bits .or .u64 ((n : Int) / 4294967296) (IntKind.u64.wrap ((n : Int) * 4294967296)) = ((rv3 n : Nat) : Int) := by
  have e1 : (n : Int) / (4294967296 : Int) = ((n >>> 32 : Nat) : Int) := by rw [Nat.shiftRight_eq_div_pow]; omega
  have h1 : n >>> 32 < 18446744073709551616 := by rw [Nat.shiftRight_eq_div_pow]; omega
  have e4 : IntKind.u64.wrap ((n : Int) * 4294967296) = (((n <<< 32) % 18446744073709551616 : Nat) : Int) := by rw [IntKind.wrap_u64, Nat.shiftLeft_eq]; omega
  rw [e1, e4, nbits_or64 _ _ h1 (Nat.mod_lt _ (by decide))]
  rfl
set_option maxRecDepth 100000 in
theorem rev_at (n : Nat) (hn : n < 18446744073709551616) (w : World) : Calls Tryd.prog 49 #[.int .u64 (n : Int)] w fun e w' => e = .returned (.int .u64 ((rv n : Nat) : Int)) ∧ w' = w := by
  have H : Hid (bits .or .u64 ((bits .or .u64 (bits .and .u64 (bits .or .u64 (bits .and .u64 ((n : Int) / 256) 71777214294589695) (IntKind.u64.wrap (bits .and .u64 (n : Int) 71777214294589695 * 256)) / 65536) 281470681808895) (IntKind.u64.wrap (bits .and .u64 (bits .or .u64 (bits .and .u64 ((n : Int) / 256) 71777214294589695) (IntKind.u64.wrap (bits .and .u64 (n : Int) 71777214294589695 * 256))) 281470681808895 * 65536))) / 4294967296) (IntKind.u64.wrap ((bits .or .u64 (bits .and .u64 (bits .or .u64 (bits .and .u64 ((n : Int) / 256) 71777214294589695) (IntKind.u64.wrap (bits .and .u64 (n : Int) 71777214294589695 * 256)) / 65536) 281470681808895) (IntKind.u64.wrap (bits .and .u64 (bits .or .u64 (bits .and .u64 ((n : Int) / 256) 71777214294589695) (IntKind.u64.wrap (bits .and .u64 (n : Int) 71777214294589695 * 256))) 281470681808895 * 65536))) * 4294967296)) = ((rv n : Nat) : Int)) := by
    unfold Hid
    rw [rstep1 hn, rstep2 (rv1_lt hn), rstep3 (rv2_lt (rv1_lt hn))]
    rfl
  go_enter Tryd.func49, Tryd.ntmps49
  go_wp2
  go_ret
  exact ⟨ret1 (congrArg (Value.int .u64) H.out), rfl⟩
theorem com_xor {x : Nat} (h : x < 18446744073709551616) : 18446744073709551615 ^^^ x = 18446744073709551615 - x := by
  apply Nat.eq_of_testBit_eq
  intro i
  rw [show 18446744073709551615 - x = 2 ^ 64 - (x + 1) by omega, Nat.testBit_two_pow_sub_succ (by omega), show (18446744073709551615 : Nat) = 2 ^ 64 - (0 + 1) by rfl, Nat.testBit_xor, Nat.testBit_two_pow_sub_succ (by decide)]
  by_cases hi : i < 64
  · simp [hi]
  · rw [tb_big h (by omega)]
    simp [hi]
theorem not_u64 {x : Nat} (h : x < 18446744073709551616) : bits .xor .u64 18446744073709551615 (x : Int) = ((18446744073709551615 - x : Nat) : Int) := by
  rw [← com_xor h]
  exact nbits_xor64 18446744073709551615 x (by decide) h
set_option maxRecDepth 100000 in
theorem falling_at (n : Nat) (hn : n < 18446744073709551616) (w : World) : Calls Tryd.prog 37 #[.int .u64 (n : Int)] w fun e w' => e = .returned (.int .u64 ((fal n : Nat) : Int)) ∧ w' = w := by
  have HX : Hid (bits .xor .u64 18446744073709551615 ((rv n : Nat) : Int) = ((fal n : Nat) : Int)) := not_u64 (rv_lt hn)
  go_enter Tryd.func37, Tryd.ntmps37
  go_wp2_with (go_at_call 49; refine (rev_at n hn _).mono ?_; rintro e w1 ⟨rfl, rfl⟩)
  go_ret
  exact ⟨ret1 (congrArg (Value.int .u64) HX.out), rfl⟩
set_option maxRecDepth 100000 in
theorem rising_at (n : Nat) (hn : n < 18446744073709551616) (w : World) : Calls Tryd.prog 44 #[.int .u64 (n : Int)] w fun e w' => e = .returned (.int .u64 ((ris n : Nat) : Int)) ∧ w' = w := by
  have HX : Hid (bits .xor .u64 18446744073709551615 (n : Int) = ((18446744073709551615 - n : Nat) : Int)) := not_u64 hn
  have hR := fun W => rev_at (18446744073709551615 - n) (by omega) W
  rw [← HX.out] at hR
  go_enter Tryd.func44, Tryd.ntmps44
  go_wp2_with (go_at_call 49; refine (hR _).mono ?_; rintro e w1 ⟨rfl, rfl⟩)
  go_ret
  exact ⟨ret1 rfl, rfl⟩
end Go.Proofs.YtnggajconglfcaaDoor
