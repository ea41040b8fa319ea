/- The document's own check sum, bit by bit with the highest power first, is the one with the lowest first, turned round; masks go there and back. -/
import Derived.Test.YtdhfimolgcnejaaPlainTurn
namespace Go.Proofs.Ytdhfimolgcnejaa

/-- k bits of n laid behind out, in the other order. -/
def rv : Nat → Nat → Nat → Nat
  | 0, _, out => out
  | k + 1, n, out => rv k (n / 2) (out * 2 + n % 2)
theorem rv_testBit : ∀ (k n out i : Nat), (rv k n out).testBit i = if i < k then n.testBit (k - 1 - i) else out.testBit (i - k)
  | 0, n, out, i => by simp [rv]
  | k + 1, n, out, i => by
    rw [rv, rv_testBit k]
    by_cases h1 : i < k
    · rw [if_pos h1, if_pos (by omega)]
      rw [show k + 1 - 1 - i = (k - 1 - i) + 1 by omega, Nat.testBit_add_one]
    · by_cases h2 : i = k
      · subst h2
        rw [if_neg (by omega), if_pos (by omega)]
        simp only [Nat.sub_self, Nat.add_sub_cancel, Nat.testBit_zero]
        congr 1
        simp only [eq_iff_iff]
        omega
      · rw [if_neg h1, if_neg (by omega), show i - k = (i - (k + 1)) + 1 by omega, Nat.testBit_add_one, show (out * 2 + n % 2) / 2 = out by omega]
theorem rv_lt : ∀ (k n out i : Nat), out < 2 ^ i → rv k n out < 2 ^ (i + k)
  | 0, n, out, i, h => by simpa [rv] using h
  | k + 1, n, out, i, h => by
    rw [rv, show i + (k + 1) = (i + 1) + k by omega]
    exact rv_lt k (n / 2) (out * 2 + n % 2) (i + 1) (by rw [Nat.pow_succ]; omega)
def rev (x : Nat) : Nat := rv 32 x 0
theorem rev_testBit (x i : Nat) : (rev x).testBit i = (decide (i < 32) && x.testBit (31 - i)) := by
  unfold rev
  rw [rv_testBit]
  by_cases h : i < 32
  · simp [h]
  · simp [h]
theorem rev_lt (x : Nat) : rev x < 4294967296 := rv_lt 32 x 0 0 (by simp)
theorem rev_xor (a b : Nat) : rev (a ^^^ b) = rev a ^^^ rev b := by
  apply Nat.eq_of_testBit_eq
  intro i
  simp only [rev_testBit, Nat.testBit_xor]
  cases decide (i < 32) <;> simp
theorem bit_hi {x i : Nat} (h : x < 4294967296) (hi : 32 ≤ i) : x.testBit i = false :=
  Nat.testBit_lt_two_pow (Nat.lt_of_lt_of_le (show x < 2 ^ 32 from h) (Nat.pow_le_pow_right (by omega) hi))
theorem rev_rev (x : Nat) (h : x < 4294967296) : rev (rev x) = x := by
  apply Nat.eq_of_testBit_eq
  intro i
  rw [rev_testBit, rev_testBit]
  by_cases hi : i < 32
  · simp [hi, show 31 - i < 32 by omega, show 31 - (31 - i) = i by omega]
  · simp [hi, bit_hi h (show 32 ≤ i by omega)]
theorem rev_all : rev 4294967295 = 4294967295 := by decide +kernel
theorem rev_byte (c : Nat) (hc : c < 256) : rev c = rv 8 c 0 * 16777216 := by
  apply Nat.eq_of_testBit_eq
  intro i
  rw [rev_testBit, Nat.mul_comm, show 16777216 = 2 ^ 24 from rfl, Nat.testBit_two_pow_mul, rv_testBit]
  by_cases h1 : 24 ≤ i
  · by_cases h2 : i < 32
    · simp [h1, h2, show i - 24 < 8 by omega, show 31 - i = 7 - (i - 24) by omega]
    · simp [h2, show ¬ i - 24 < 8 by omega]
  · have : c.testBit (31 - i) = false := Nat.testBit_lt_two_pow (Nat.lt_of_lt_of_le (show c < 2 ^ 8 from hc) (Nat.pow_le_pow_right (by omega) (show 8 ≤ 31 - i by omega)))
    simp [h1, this]
/-- A bit of a check sum, the highest first. -/
def m1 (y : Nat) : Nat := if y / 2147483648 = 1 then (y * 2 % 4294967296) ^^^ 517762881 else y * 2 % 4294967296
def m1it : Nat → Nat → Nat
  | 0, y => y
  | k + 1, y => m1 (m1it k y)
theorem m1_lt (y : Nat) : m1 y < 4294967296 := by
  unfold m1
  split
  · exact xor32 (Nat.mod_lt _ (by omega)) (by omega)
  · exact Nat.mod_lt _ (by omega)
theorem poly_bits : ∀ i : Fin 32, (517762881 : Nat).testBit i.val = (2197175160 : Nat).testBit (31 - i.val) := by decide
theorem top_bit (y : Nat) (h : y < 4294967296) : (y / 2147483648 = 1) ↔ y.testBit 31 = true := by
  have := Nat.testBit_div_two_pow (x := y) (i := 0) (n := 31)
  rw [Nat.zero_add] at this
  rw [← this, Nat.testBit_zero]
  simp
  omega
theorem rev_s1 (x : Nat) (h : x < 4294967296) : rev (s1 x) = m1 (rev x) := by
  have hodd : (rev x / 2147483648 = 1) ↔ x % 2 = 1 := by
    rw [top_bit _ (rev_lt x), rev_testBit]
    simp [Nat.testBit_zero]
  apply Nat.eq_of_testBit_eq
  intro i
  rw [rev_testBit]
  have hm : (rev x * 2 % 4294967296).testBit i = (decide (i < 32) && x.testBit (32 - i)) := by
    rw [show (4294967296 : Nat) = 2 ^ 32 from rfl, Nat.testBit_mod_two_pow]
    by_cases hi : i < 32
    · cases i with
      | zero => simp [bit_hi h (Nat.le_refl 32)]
      | succ j =>
        rw [Nat.testBit_add_one, Nat.mul_div_cancel _ (by omega), rev_testBit]
        rw [show 31 - j = 32 - (j + 1) by omega, decide_eq_true (show j < 32 by omega), decide_eq_true hi]
        rfl
    · simp [hi]
  by_cases hi : i < 32
  · have hp := poly_bits ⟨i, hi⟩
    simp only at hp
    unfold s1 m1
    by_cases ho : x % 2 = 1
    · rw [if_pos ho, if_pos (hodd.2 ho), Nat.testBit_xor, Nat.testBit_xor, hm, hp, ← Nat.testBit_add_one]
      simp [hi, show 31 - i + 1 = 32 - i by omega]
    · rw [if_neg ho, if_neg (fun e => ho (hodd.1 e)), hm, ← Nat.testBit_add_one]
      simp [hi, show 31 - i + 1 = 32 - i by omega]
  · simp [hi, bit_hi (m1_lt (rev x)) (show 32 ≤ i by omega)]
theorem rev_s1it : ∀ (k x : Nat), x < 4294967296 → rev (s1it k x) = m1it k (rev x)
  | 0, _, _ => rfl
  | k + 1, x, h => by rw [s1it, rev_s1 _ (s1it_lt k h), rev_s1it k x h, m1it]
theorem nib_nib (x : Nat) : nib (nib x) = s1it 8 x := rfl
/-- A byte of the document's check sum. -/
def rcByte (y c : Nat) : Nat := m1it 8 (y ^^^ rv 8 c 0 * 16777216)
theorem rcByte_eq (s c : Nat) (hs : s < 4294967296) (hc : c < 256) : rcByte (rev s) c = rev (crcByte s c) := by
  unfold rcByte
  rw [crcByte_eq, nib_nib, rev_s1it 8 _ (xor32 hs (by omega)), rev_xor, rev_byte c hc]
theorem rc_end (s : Nat) (h : s < 4294967296) : rev (4294967295 ^^^ rev s) = 4294967295 ^^^ s := by
  rw [rev_xor, rev_all, rev_rev s h]

/-- Masks. -/
def maskN (n : Nat) : Nat := (n / 32768 + n % 32768 * 131072 + 2726488792) % 4294967296
def unmaskN (n : Nat) : Nat := (n + 1568478504) % 4294967296 % 131072 * 32768 + (n + 1568478504) % 4294967296 / 131072
theorem maskN_lt (n : Nat) : maskN n < 4294967296 := Nat.mod_lt _ (by omega)
theorem unmaskN_lt (n : Nat) : unmaskN n < 4294967296 := by unfold unmaskN; omega
theorem add_sub32 (m : Nat) (h : m < 4294967296) : ((m + 2726488792) % 4294967296 + 1568478504) % 4294967296 = m := by omega
theorem sub_add32 (m : Nat) (h : m < 4294967296) : ((m + 1568478504) % 4294967296 + 2726488792) % 4294967296 = m := by omega
theorem unmask_mask (n : Nat) (h : n < 4294967296) : unmaskN (maskN n) = n := by
  unfold unmaskN maskN
  rw [add_sub32 _ (by omega)]
  omega
theorem mask_unmask (n : Nat) (h : n < 4294967296) : maskN (unmaskN n) = n := by
  unfold maskN
  have e1 : unmaskN n / 32768 = (n + 1568478504) % 4294967296 % 131072 := by unfold unmaskN; omega
  have e2 : unmaskN n % 32768 = (n + 1568478504) % 4294967296 / 131072 := by unfold unmaskN; omega
  rw [e1, e2, show (n + 1568478504) % 4294967296 % 131072 + (n + 1568478504) % 4294967296 / 131072 * 131072 = (n + 1568478504) % 4294967296 by omega]
  exact sub_add32 n h
theorem mask_or (n : Nat) (h : n < 4294967296) : n / 32768 ||| n * 131072 % 4294967296 = n / 32768 + n % 32768 * 131072 := by
  have e : n * 131072 % 4294967296 = 2 ^ 17 * (n % 32768) := by omega
  have := Nat.two_pow_add_eq_or_of_lt (i := 17) (b := n / 32768) (show n / 32768 < 2 ^ 17 by omega) (n % 32768)
  rw [e, Nat.or_comm, ← this]
  omega
theorem unmask_or (m : Nat) (h : m < 4294967296) : m * 32768 % 4294967296 ||| m / 131072 = m % 131072 * 32768 + m / 131072 := by
  have e : m * 32768 % 4294967296 = 2 ^ 15 * (m % 131072) := by omega
  have := Nat.two_pow_add_eq_or_of_lt (i := 15) (b := m / 131072) (show m / 131072 < 2 ^ 15 by omega) (m % 131072)
  rw [e, ← this]
  omega
end Go.Proofs.Ytdhfimolgcnejaa
