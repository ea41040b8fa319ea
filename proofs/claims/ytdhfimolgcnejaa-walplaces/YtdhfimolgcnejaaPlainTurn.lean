/- Check sums: a step of a bit is linear and loses nothing, so a byte that is another makes another sum. -/
import Derived.Test.YtdhfimolgcnejaaPlainCrc
namespace Go.Proofs.Ytdhfimolgcnejaa

theorem xor_half (a b : Nat) : (a ^^^ b) / 2 = a / 2 ^^^ b / 2 := by
  have := Nat.xor_div_two_pow (a := a) (b := b) (n := 1)
  simpa using this
theorem xor_odd (a b : Nat) : (a ^^^ b) % 2 = (a + b) % 2 := by
  have h : (a ^^^ b) % 2 = 1 ↔ ¬ (a % 2 = 1 ↔ b % 2 = 1) := by simp
  omega

theorem xor_swap (a b p : Nat) : (a ^^^ p) ^^^ (b ^^^ p) = a ^^^ b := by
  rw [Nat.xor_assoc, Nat.xor_comm b p, ← Nat.xor_assoc p p b, Nat.xor_self, Nat.zero_xor]
theorem s1_xor (a b : Nat) : s1 (a ^^^ b) = s1 a ^^^ s1 b := by
  have h := xor_odd a b
  have h1 : a % 2 = 0 ∨ a % 2 = 1 := by omega
  have h2 : b % 2 = 0 ∨ b % 2 = 1 := by omega
  unfold s1
  rw [xor_half]
  rcases h1 with h1 | h1 <;> rcases h2 with h2 | h2
  · rw [if_neg (by omega), if_neg (by omega), if_neg (by omega)]
  · rw [if_pos (by omega), if_neg (by omega), if_pos (by omega), Nat.xor_assoc]
  · rw [if_pos (by omega), if_pos (by omega), if_neg (by omega), Nat.xor_assoc, Nat.xor_assoc, Nat.xor_comm (b / 2)]
  · rw [if_neg (by omega), if_pos (by omega), if_pos (by omega), xor_swap]
theorem s1it_xor : ∀ (k a b : Nat), s1it k (a ^^^ b) = s1it k a ^^^ s1it k b
  | 0, _, _ => rfl
  | k + 1, a, b => by simp only [s1it, s1it_xor k a b, s1_xor]
theorem s1_even (y : Nat) : s1 (2 * y) = y := by unfold s1; rw [if_neg (by omega)]; omega
theorem nib16 (y : Nat) : nib (16 * y) = y := by
  have e : 16 * y = 2 * (2 * (2 * (2 * y))) := by omega
  rw [e]
  simp only [nib, s1it, s1_even]
theorem split16 (x : Nat) : x = 16 * (x / 16) ^^^ x % 16 := by
  apply Nat.eq_of_testBit_eq
  intro i
  rw [Nat.testBit_xor, show (16 : Nat) = 2 ^ 4 from rfl, Nat.testBit_two_pow_mul, Nat.testBit_mod_two_pow, Nat.testBit_div_two_pow]
  by_cases h : i < 4
  · simp [h, show ¬ 4 ≤ i by omega]
  · simp [h, show 4 ≤ i by omega, show i - 4 + 4 = i by omega]
theorem crcHalf_eq (x : Nat) : crcHalf x = nib x := by
  have e : nib x = nib (16 * (x / 16) ^^^ x % 16) := by rw [← split16]
  rw [e]
  unfold crcHalf nib
  rw [s1it_xor]
  have := nib16 (x / 16)
  unfold nib at this
  rw [this]

theorem s1_inj {a b : Nat} (ha : a < 4294967296) (hb : b < 4294967296) (h : s1 a = s1 b) : a = b := by
  have top : ∀ y, y < 2147483648 → (y ^^^ 2197175160).testBit 31 = true := by
    intro y hy
    rw [Nat.testBit_xor, Nat.testBit_lt_two_pow (show y < 2 ^ 31 by omega)]
    decide
  have low : ∀ y, y < 2147483648 → y.testBit 31 = false := fun y hy => Nat.testBit_lt_two_pow (show y < 2 ^ 31 by omega)
  unfold s1 at h
  by_cases h1 : a % 2 = 1 <;> by_cases h2 : b % 2 = 1
  · rw [if_pos h1, if_pos h2] at h
    have := congrArg (· ^^^ 2197175160) h
    simp only [Nat.xor_assoc, Nat.xor_self, Nat.xor_zero] at this
    omega
  · rw [if_pos h1, if_neg h2] at h
    have t := top (a / 2) (by omega)
    rw [h, low (b / 2) (by omega)] at t
    cases t
  · rw [if_neg h1, if_pos h2] at h
    have t := top (b / 2) (by omega)
    rw [← h, low (a / 2) (by omega)] at t
    cases t
  · rw [if_neg h1, if_neg h2] at h
    omega
theorem s1it_inj : ∀ (k : Nat) {a b : Nat}, a < 4294967296 → b < 4294967296 → s1it k a = s1it k b → a = b
  | 0, _, _, _, _, h => h
  | k + 1, _, _, ha, hb, h => s1it_inj k ha hb (s1_inj (s1it_lt k ha) (s1it_lt k hb) h)
theorem crcByte_eq (s c : Nat) : crcByte s c = nib (nib (s ^^^ c)) := by unfold crcByte; rw [crcHalf_eq, crcHalf_eq]
theorem crcByte_inj {s c t d : Nat} (h1 : s ^^^ c < 4294967296) (h2 : t ^^^ d < 4294967296) (h : crcByte s c = crcByte t d) : s ^^^ c = t ^^^ d := by
  rw [crcByte_eq, crcByte_eq] at h
  exact s1it_inj 4 h1 h2 (s1it_inj 4 (nib_lt _ h1) (nib_lt _ h2) h)
theorem xor_right_inj {a b c : Nat} (h : a ^^^ c = b ^^^ c) : a = b := by
  have := congrArg (· ^^^ c) h
  simpa [Nat.xor_assoc] using this
theorem crcGo_inj : ∀ (bs : List UInt8) {s t : Nat}, s < 4294967296 → t < 4294967296 → crcGo s bs = crcGo t bs → s = t
  | [], _, _, _, _, h => h
  | c :: r, s, t, hs, ht, h => by
    have hc : c.toNat < 4294967296 := Nat.lt_trans (UInt8.toNat_lt c) (by omega)
    have := crcGo_inj r (crcByte_lt hs (UInt8.toNat_lt c)) (crcByte_lt ht (UInt8.toNat_lt c)) h
    exact xor_right_inj (crcByte_inj (xor32 hs hc) (xor32 ht hc) this)
theorem crcGo_append (s : Nat) (l r : List UInt8) : crcGo s (l ++ r) = crcGo (crcGo s l) r := by simp [crcGo]
/-- One byte that is another makes another sum. -/
theorem crc_other (bs : List UInt8) (k : Nat) (x : UInt8) (hk : k < bs.length) (hx : bs.getD k 0 ≠ x) : crc bs ≠ crc (bs.set k x) := by
  intro h
  unfold crc at h
  have h1 : crcGo 4294967295 bs = crcGo 4294967295 (bs.set k x) := by
    have := congrArg (4294967295 ^^^ ·) h
    simpa [← Nat.xor_assoc] using this
  have e1 : bs = bs.take k ++ [bs.getD k 0] ++ bs.drop (k + 1) := by rw [← take_snoc bs k hk, List.take_append_drop]
  have e2 : bs.set k x = bs.take k ++ [x] ++ bs.drop (k + 1) := by rw [List.set_eq_take_append_cons_drop, if_pos hk]; simp
  have h0 : crcGo 4294967295 (bs.take k ++ [bs.getD k 0] ++ bs.drop (k + 1)) = crcGo 4294967295 (bs.take k ++ [x] ++ bs.drop (k + 1)) := by rw [← e1, ← e2]; exact h1
  simp only [crcGo_append] at h0
  have hp := crcGo_lt (bs.take k) (s := 4294967295) (by omega)
  have hb : ∀ c : UInt8, crcGo (crcGo 4294967295 (bs.take k)) [c] < 4294967296 := fun c => crcGo_lt [c] hp
  have h2 := crcGo_inj (bs.drop (k + 1)) (hb _) (hb _) h0
  have h3 := crcByte_inj (xor32 hp (Nat.lt_trans (UInt8.toNat_lt _) (by omega))) (xor32 hp (Nat.lt_trans (UInt8.toNat_lt _) (by omega))) h2
  rw [Nat.xor_comm, Nat.xor_comm (crcGo 4294967295 (bs.take k))] at h3
  exact hx (UInt8.toNat_inj.1 (xor_right_inj h3))
end Go.Proofs.Ytdhfimolgcnejaa
