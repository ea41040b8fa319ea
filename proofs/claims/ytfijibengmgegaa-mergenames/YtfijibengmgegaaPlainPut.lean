/- Numbers of so many bytes, and texts, as bytes; what is laid is read. -/
import Derived.Test.YtfijibengmgegaaPlain
namespace Go.Proofs.Ytfijibengmgegaa

/-- The lowest k bytes of a number, the lowest first. -/
def fxEnc (n : Nat) : Nat → List UInt8
  | 0 => []
  | k + 1 => fxEnc n k ++ [loByte (n / 2 ^ (8 * k))]
theorem fxEnc_length (n : Nat) : ∀ k, (fxEnc n k).length = k
  | 0 => rfl
  | k + 1 => by simp [fxEnc, fxEnc_length n k]
def fxPut (n : Nat) (size : Int) : List UInt8 := if size < 1 ∨ 8 < size then [] else fxEnc n size.toNat
theorem fxPut_length (n : Nat) (size : Int) : (fxPut n size).length ≤ 8 := by
  unfold fxPut
  split
  · simp
  · rw [fxEnc_length]; omega
def txtPut (s : List UInt8) : List UInt8 := uvEnc s.length ++ s

theorem leNat_append (l r : List UInt8) : leNat (l ++ r) = leNat l + 256 ^ l.length * leNat r := by
  induction l with
  | nil => simp [leNat]
  | cons c l ih =>
    simp only [List.cons_append, leNat, ih, List.length_cons, Nat.pow_succ]
    rw [Nat.mul_add, ← Nat.add_assoc, Nat.mul_comm (256 ^ l.length) 256, Nat.mul_assoc]
theorem leNat_fxEnc (n : Nat) : ∀ k, leNat (fxEnc n k) = n % 2 ^ (8 * k)
  | 0 => by simp [fxEnc, leNat, Nat.mod_one]
  | k + 1 => by
    rw [fxEnc, leNat_append, leNat_fxEnc n k, fxEnc_length, pow256]
    simp only [leNat, loByte_toNat]
    rw [show 8 * (k + 1) = 8 * k + 8 by omega, Nat.pow_add, Nat.mod_mul]
    simp

theorem uvGo_enc : ∀ (f i acc n : Nat) (more : List UInt8), i + f = 9 → n < 2 * 128 ^ f → uvGo i acc (uvEncF f n ++ more) = (acc + n * 2 ^ (7 * i), i + (uvEncF f n).length, 0)
  | 0, i, acc, n, more, hi, hn => by
    obtain rfl : i = 9 := by omega
    have h1 : n < 2 := by simpa using hn
    have e : (loByte n).toNat = n := by rw [loByte_toNat]; omega
    simp only [uvEncF, List.cons_append, List.nil_append, uvGo, e]
    rw [if_neg (by omega), if_pos (by omega), Nat.mod_eq_of_lt (by omega)]
    simp
  | f + 1, i, acc, n, more, hi, hn => by
    by_cases h : 128 ≤ n
    · rw [uvEncF_more f n h, List.cons_append, uvGo, hiByte_toNat, if_neg (by omega), if_neg (by omega), uvGo_enc f (i + 1) _ (n / 128) more (by omega) (by rw [Nat.pow_succ] at hn; omega)]
      have e : (n % 128 + 128) % 128 = n % 128 := by omega
      rw [e, pow7]
      simp only [List.length_cons, Prod.mk.injEq, and_true]
      refine ⟨?_, by omega⟩
      rw [Nat.add_assoc, ← Nat.mul_assoc, ← Nat.add_mul]
      congr 2
      omega
    · rw [uvEncF_last (f + 1) n (by omega), List.cons_append, uvGo, loByte_toNat, if_neg (by omega), if_pos (by omega), show n % 256 % 128 = n by omega]
      simp
theorem uvRead_enc (n : Nat) (h : n < 18446744073709551616) (more : List UInt8) : uvRead (uvEnc n ++ more) = (n, (uvEnc n).length, 0) := by
  unfold uvRead uvEnc
  rw [uvGo_enc 9 0 0 n more rfl (by omega)]
  simp
theorem txtRead_put (s more : List UInt8) (h : s.length < 18446744073709551616) : txtRead (txtPut s ++ more) = (s, (txtPut s).length, 0) := by
  have e := uvRead_enc s.length h (s ++ more)
  unfold txtPut
  rw [List.append_assoc, txtRead_yes e (by simp)]
  simp
theorem fxRead_put (n : Nat) (k : Nat) (more : List UInt8) (h1 : 1 ≤ k) (h2 : k ≤ 8) : fxRead (fxEnc n k ++ more) k = (n % 2 ^ (8 * k), 0) := by
  unfold fxRead
  rw [if_neg (by omega), if_neg (by simp [fxEnc_length])]
  rw [Int.toNat_natCast, List.take_append_of_le_length (by rw [fxEnc_length]; exact Nat.le_refl _), List.take_of_length_le (by rw [fxEnc_length]; exact Nat.le_refl _), leNat_fxEnc]

/-- As few bytes as hold the number. -/
theorem uvEncF_few : ∀ (f n : Nat), (uvEncF f n).length = 1 ∨ 0 < n / 2 ^ (7 * ((uvEncF f n).length - 1))
  | 0, n => .inl rfl
  | f + 1, n => by
    by_cases h : 128 ≤ n
    · rw [uvEncF_more f n h]
      have hl := uvEncF_length f (n / 128)
      right
      simp only [List.length_cons, Nat.add_sub_cancel]
      rcases uvEncF_few f (n / 128) with h1 | h1
      · rw [h1]; omega
      · rw [show 7 * (uvEncF f (n / 128)).length = 7 * ((uvEncF f (n / 128)).length - 1 + 1) by omega, pow7, ← Nat.div_div_eq_div_mul]
        exact h1
    · left
      rw [uvEncF_last (f + 1) n (by omega)]
      rfl
theorem uvEnc_few (n : Nat) : (uvEnc n).length = 1 ∨ 0 < n / 2 ^ (7 * ((uvEnc n).length - 1)) := uvEncF_few 9 n
/-- A number that is cut lacks bytes. -/
theorem uvGo_cut : ∀ (f i acc n k : Nat), i + f = 9 → n < 2 * 128 ^ f → k < (uvEncF f n).length → uvGo i acc ((uvEncF f n).take k) = (0, 0, 10)
  | _, _, _, _, 0, _, _, _ => by simp [uvGo]
  | 0, _, _, _, k + 1, _, _, hk => by simp [uvEncF] at hk
  | f + 1, i, acc, n, k + 1, hi, hn, hk => by
    by_cases h : 128 ≤ n
    · rw [uvEncF_more f n h] at hk ⊢
      rw [List.take_succ_cons, uvGo, hiByte_toNat, if_neg (by omega), if_neg (by omega)]
      exact uvGo_cut f (i + 1) _ (n / 128) k (by omega) (by rw [Nat.pow_succ] at hn; omega) (by simpa using hk)
    · rw [uvEncF_last (f + 1) n (by omega)] at hk
      simp at hk
theorem uvRead_cut (n k : Nat) (h : n < 18446744073709551616) (hk : k < (uvEnc n).length) : uvRead ((uvEnc n).take k) = (0, 0, 10) := uvGo_cut 9 0 0 n k rfl (by omega) hk
theorem txtRead_cut (s : List UInt8) (k : Nat) (h : s.length < 18446744073709551616) (hk : k < (txtPut s).length) : txtRead ((txtPut s).take k) = ([], 0, 10) := by
  unfold txtPut at hk ⊢
  by_cases h1 : k < (uvEnc s.length).length
  · rw [List.take_append_of_le_length (by omega)]
    exact txtRead_err (uvRead_cut _ _ h h1) (by omega)
  · rw [List.take_append, List.take_of_length_le (by omega)]
    refine txtRead_short (uvRead_enc s.length h _) ?_
    simp at hk ⊢
    omega
theorem uvEnc_inj {n m : Nat} (hn : n < 18446744073709551616) (hm : m < 18446744073709551616) (h : uvEnc n = uvEnc m) : n = m := by
  have e1 := uvRead_enc n hn []
  have e2 := uvRead_enc m hm []
  rw [h, e2] at e1
  simp at e1
  exact e1.symm
theorem txtPut_inj {s t : List UInt8} (hs : s.length < 18446744073709551616) (ht : t.length < 18446744073709551616) (h : txtPut s = txtPut t) : s = t := by
  have e1 := txtRead_put s [] hs
  have e2 := txtRead_put t [] ht
  rw [h, e2] at e1
  simp at e1
  exact e1.symm
end Go.Proofs.Ytfijibengmgegaa
