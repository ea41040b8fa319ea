/- Numbers of so many bytes, and texts, as bytes; what is laid is read. -/
import Derived.Test.YtfijibengmgegaaPlain
import Derived.Test.YtfijibengmgegaaQa01
namespace Go.Proofs.Ytfijibengmgegaa

/-- The lowest k bytes of a number, the lowest first. -/
def fxEnc (n : Nat) : Nat → List UInt8
  | 0 => []
  | k + 1 => fxEnc n k ++ [loByte (n / 2 ^ (8 * k))]
theorem fxEnc_length (n : Nat) : ∀ k, (fxEnc n k).length = k
  | 0 => rfl
  | k + 1 => by simp [fxEnc, fxEnc_length n k]
def fxPut (n : Nat) (size : Int) : List UInt8 := if size < 1 ∨ 8 < size then [] else fxEnc n size.toNat
theorem fxPut_length (n : Nat) (size : Int) : (fxPut n size).length ≤ 8 := by
  unfold fxPut
  split
  · simp
  · rw [fxEnc_length]; omega
def txtPut (s : List UInt8) : List UInt8 := uvEnc s.length ++ s

theorem leNat_append (l r : List UInt8) : leNat (l ++ r) = leNat l + 256 ^ l.length * leNat r := by
  induction l with
  | nil => simp [leNat]
  | cons c l ih =>
    simp only [List.cons_append, leNat, ih, List.length_cons, Nat.pow_succ]
    rw [Nat.mul_add, ← Nat.add_assoc, Nat.mul_comm (256 ^ l.length) 256, Nat.mul_assoc]
theorem leNat_fxEnc (n : Nat) : ∀ k, leNat (fxEnc n k) = n % 2 ^ (8 * k)
  | 0 => by simp [fxEnc, leNat, Nat.mod_one]
  | k + 1 => by
    rw [fxEnc, leNat_append, leNat_fxEnc n k, fxEnc_length, pow256]
    simp only [leNat, loByte_toNat]
    rw [show 8 * (k + 1) = 8 * k + 8 by omega, Nat.pow_add, Nat.mod_mul]
    simp

theorem uvGo_enc : ∀ (f i acc n : Nat) (more : List UInt8), i + f = 9 → n < 2 * 128 ^ f → uvGo i acc (uvEncF f n ++ more) = (acc + n * 2 ^ (7 * i), i + (uvEncF f n).length, 0)
  | 0, i, acc, n, more, hi, hn => by
    obtain rfl : i = 9 := by omega
    have h1 : n < 2 := by simpa using hn
    have e : (loByte n).toNat = n := by rw [loByte_toNat]; omega
    simp only [uvEncF, List.cons_append, List.nil_append, uvGo, e]
    rw [if_neg (by omega), if_pos (by omega), Nat.mod_eq_of_lt (by omega)]
    simp
  | f + 1, i, acc, n, more, hi, hn => by
    by_cases h : 128 ≤ n
    · rw [uvEncF_more f n h, List.cons_append, uvGo, hiByte_toNat, if_neg (by omega), if_neg (by omega), uvGo_enc f (i + 1) _ (n / 128) more (by omega) (by rw [Nat.pow_succ] at hn; omega)]
      have e : (n % 128 + 128) % 128 = n % 128 := by omega
      rw [e, pow7]
      simp only [List.length_cons, Prod.mk.injEq, and_true]
      refine ⟨?_, by omega⟩
      rw [Nat.add_assoc, ← Nat.mul_assoc, ← Nat.add_mul]
      congr 2
      omega
    · rw [uvEncF_last (f + 1) n (by omega), List.cons_append, uvGo, loByte_toNat, if_neg (by omega), if_pos (by omega), show n % 256 % 128 = n by omega]
      simp
theorem uvRead_enc (n : Nat) (h : n < 18446744073709551616) (more : List UInt8) : uvRead (uvEnc n ++ more) = (n, (uvEnc n).length, 0) := by
  unfold uvRead uvEnc
  rw [uvGo_enc 9 0 0 n more rfl (by omega)]
  simp
theorem txtRead_put (s more : List UInt8) (h : s.length < 18446744073709551616) : txtRead (txtPut s ++ more) = (s, (txtPut s).length, 0) := by
  have e := uvRead_enc s.length h (s ++ more)
  unfold txtPut
  rw [List.append_assoc, txtRead_yes e (by simp)]
  simp
theorem fxRead_put (n : Nat) (k : Nat) (more : List UInt8) (h1 : 1 ≤ k) (h2 : k ≤ 8) : fxRead (fxEnc n k ++ more) k = (n % 2 ^ (8 * k), 0) := by
  unfold fxRead
  rw [if_neg (by omega), if_neg (by simp [fxEnc_length])]
  rw [Int.toNat_natCast, List.take_append_of_le_length (by rw [fxEnc_length]; exact Nat.le_refl _), List.take_of_length_le (by rw [fxEnc_length]; exact Nat.le_refl _), leNat_fxEnc]

/-- As few bytes as hold the number. -/
theorem uvEncF_few : ∀ (f n : Nat), (uvEncF f n).length = 1 ∨ 0 < n / 2 ^ (7 * ((uvEncF f n).length - 1))
  | 0, n => .inl rfl
  | f + 1, n => by
    by_cases h : 128 ≤ n
    · rw [uvEncF_more f n h]
      have hl := uvEncF_length f (n / 128)
      right
      simp only [List.length_cons, Nat.add_sub_cancel]
      rcases uvEncF_few f (n / 128) with h1 | h1
      · rw [h1]; omega
      · rw [show 7 * (uvEncF f (n / 128)).length = 7 * ((uvEncF f (n / 128)).length - 1 + 1) by omega, pow7, ← Nat.div_div_eq_div_mul]
        exact h1
    · left
      rw [uvEncF_last (f + 1) n (by omega)]
      rfl
theorem uvEnc_few (n : Nat) : (uvEnc n).length = 1 ∨ 0 < n / 2 ^ (7 * ((uvEnc n).length - 1)) := uvEncF_few 9 n
/-- A number that is cut lacks bytes. -/
theorem uvGo_cut : ∀ (f i acc n k : Nat), i + f = 9 → n < 2 * 128 ^ f → k < (uvEncF f n).length → uvGo i acc ((uvEncF f n).take k) = (0, 0, 10)
  | _, _, _, _, 0, _, _, _ => by simp [uvGo]
  | 0, _, _, _, k + 1, _, _, hk => by simp [uvEncF] at hk
  | f + 1, i, acc, n, k + 1, hi, hn, hk => by
    by_cases h : 128 ≤ n
    · rw [uvEncF_more f n h] at hk ⊢
      rw [List.take_succ_cons, uvGo, hiByte_toNat, if_neg (by omega), if_neg (by omega)]
      exact uvGo_cut f (i + 1) _ (n / 128) k (by omega) (by rw [Nat.pow_succ] at hn; omega) (by simpa using hk)
    · rw [uvEncF_last (f + 1) n (by omega)] at hk
      simp at hk
theorem uvRead_cut (n k : Nat) (h : n < 18446744073709551616) (hk : k < (uvEnc n).length) : uvRead ((uvEnc n).take k) = (0, 0, 10) := uvGo_cut 9 0 0 n k rfl (by omega) hk
theorem txtRead_cut (s : List UInt8) (k : Nat) (h : s.length < 18446744073709551616) (hk : k < (txtPut s).length) : txtRead ((txtPut s).take k) = ([], 0, 10) := by
  unfold txtPut at hk ⊢
  by_cases h1 : k < (uvEnc s.length).length
  · rw [List.take_append_of_le_length (by omega)]
    exact txtRead_err (uvRead_cut _ _ h h1) (by omega)
  · rw [List.take_append, List.take_of_length_le (by omega)]
    refine txtRead_short (uvRead_enc s.length h _) ?_
    simp at hk ⊢
    omega
theorem uvEnc_inj {n m : Nat} (hn : n < 18446744073709551616) (hm : m < 18446744073709551616) (h : uvEnc n = uvEnc m) : n = m := by
  have e1 := uvRead_enc n hn []
  have e2 := uvRead_enc m hm []
  rw [h, e2] at e1
  simp at e1
  exact e1.symm
theorem txtPut_inj {s t : List UInt8} (hs : s.length < 18446744073709551616) (ht : t.length < 18446744073709551616) (h : txtPut s = txtPut t) : s = t := by
  have e1 := txtRead_put s [] hs
  have e2 := txtRead_put t [] ht
  rw [h, e2] at e1
  simp at e1
  exact e1.symm
end Go.Proofs.Ytfijibengmgegaa
/- Keys as bytes, by plain functions. -/
namespace Go.Proofs.Ytfijibengmgegaa
/-- The bytes of a key, none if it may not be. -/
def keyEnc (s : List UInt8) (q : Nat) (k : Int) : List UInt8 := if chk s.length q k = 0 then s ++ fxEnc (q * 256 + k.toNat) 8 else []
theorem keyEnc_yes {s : List UInt8} {q : Nat} {k : Int} (h : chk s.length q k = 0) : keyEnc s q k = s ++ fxEnc (q * 256 + k.toNat) 8 := by unfold keyEnc; rw [if_pos h]
theorem keyEnc_no {s : List UInt8} {q : Nat} {k : Int} (h : ¬ chk s.length q k = 0) : keyEnc s q k = [] := by unfold keyEnc; rw [if_neg h]
theorem chk_zero {n q : Nat} {k : Int} (h : chk n q k = 0) : n ≤ 64 ∧ q ≤ 72057594037927935 ∧ (k = 0 ∨ k = 1) := by
  unfold chk at h
  split at h
  · simp at h
  · split at h
    · simp at h
    · split at h
      · exact ⟨by omega, by omega, by assumption⟩
      · simp at h
theorem chk_mk {n q : Nat} {k : Int} (h1 : n ≤ 64) (h2 : q ≤ 72057594037927935) (h3 : k = 0 ∨ k = 1) : chk n q k = 0 := by
  unfold chk
  rw [if_neg (by omega), if_neg (by omega), if_pos h3]
/-- The number in the last 8 bytes. -/
def keyNum (bs : List UInt8) : Nat := leNat (bs.drop (bs.length - 8))
/-- Bytes that are a key's. -/
def keyOk (bs : List UInt8) : Bool := decide (8 ≤ bs.length) && (decide (bs.length ≤ 72) && decide (keyNum bs % 256 ≤ 1))
theorem keyOk_iff {bs : List UInt8} : keyOk bs = true ↔ 8 ≤ bs.length ∧ bs.length ≤ 72 ∧ keyNum bs % 256 ≤ 1 := by simp [keyOk]
def keyUser (bs : List UInt8) : List UInt8 := if keyOk bs then bs.take (bs.length - 8) else []
def keySeq (bs : List UInt8) : Nat := if keyOk bs then keyNum bs / 256 else 0
def keyKind (bs : List UInt8) : Nat := if keyOk bs then keyNum bs % 256 else 0
def keyErr (bs : List UInt8) : Nat := if keyOk bs then 0 else 20
theorem keyNum_lt (bs : List UInt8) : keyNum bs < 18446744073709551616 := leNat_lt64 _ (by simp; omega)
theorem fxEnc_le : ∀ (l : List UInt8) , fxEnc (leNat l) l.length = l := by
  have h : ∀ (l r : List UInt8), fxEnc (leNat (l ++ r)) l.length = l := by
    intro l
    induction l with
    | nil => intro r; rfl
    | cons c l ih =>
      intro r
      have hs : ∀ (n j : Nat), fxEnc n (j + 1) = loByte n :: fxEnc (n / 256) j := by
        intro n j
        induction j with
        | zero => simp [fxEnc]
        | succ j ihj =>
          rw [fxEnc, ihj, fxEnc, List.cons_append]
          congr 3
          rw [Nat.div_div_eq_div_mul, show (256 : Nat) * 2 ^ (8 * j) = 2 ^ (8 * (j + 1)) by rw [show 8 * (j + 1) = 8 + 8 * j by omega, Nat.pow_add]]
      rw [List.length_cons, hs]
      have hc := UInt8.toNat_lt c
      have e1 : leNat (c :: l ++ r) = c.toNat + 256 * leNat (l ++ r) := rfl
      rw [e1, show (c.toNat + 256 * leNat (l ++ r)) / 256 = leNat (l ++ r) by omega, ih r]
      congr 1
      apply UInt8.toNat_inj.1
      rw [loByte_toNat]
      omega
  intro l
  simpa using h l []
theorem keyNum_enc (s : List UInt8) (n : Nat) (h : n < 18446744073709551616) : keyNum (s ++ fxEnc n 8) = n := by
  unfold keyNum
  rw [List.length_append, fxEnc_length, Nat.add_sub_cancel, List.drop_left', leNat_fxEnc]
  · exact Nat.mod_eq_of_lt h
  · rfl
/-- A key that may be is read as it was laid. -/
theorem key_back (s : List UInt8) (q : Nat) (k : Int) (h : chk s.length q k = 0) :
    keyUser (keyEnc s q k) = s ∧ keySeq (keyEnc s q k) = q ∧ ((keyKind (keyEnc s q k) : Nat) : Int) = k ∧ keyErr (keyEnc s q k) = 0 := by
  obtain ⟨h1, h2, h3⟩ := chk_zero h
  have hn : q * 256 + k.toNat < 18446744073709551616 := by omega
  have hk := keyNum_enc s _ hn
  have hok : keyOk (s ++ fxEnc (q * 256 + k.toNat) 8) = true := by
    rw [keyOk_iff, hk, List.length_append, fxEnc_length]
    omega
  rw [keyEnc_yes h]
  unfold keyUser keySeq keyKind keyErr
  rw [if_pos hok, if_pos hok, if_pos hok, if_pos hok, hk, List.length_append, fxEnc_length, Nat.add_sub_cancel]
  refine ⟨by simp, by omega, by omega, rfl⟩
/-- Bytes that are a key's are laid as they were read. -/
theorem key_laid (bs : List UInt8) (h : keyOk bs = true) : chk (keyUser bs).length (keySeq bs) (keyKind bs) = 0 ∧ keyEnc (keyUser bs) (keySeq bs) (keyKind bs) = bs := by
  have hok := keyOk_iff.1 h
  have hlt := keyNum_lt bs
  have hc : chk (keyUser bs).length (keySeq bs) (keyKind bs) = 0 := by
    unfold keyUser keySeq keyKind
    rw [if_pos h, if_pos h, if_pos h]
    refine chk_mk ?_ ?_ ?_
    · simp; omega
    · omega
    · omega
  refine ⟨hc, ?_⟩
  rw [keyEnc_yes hc]
  unfold keyUser keySeq keyKind
  rw [if_pos h, if_pos h, if_pos h, show keyNum bs / 256 * 256 + ((keyNum bs % 256 : Nat) : Int).toNat = keyNum bs by omega]
  unfold keyNum
  have e := fxEnc_le (bs.drop (bs.length - 8))
  rw [show (bs.drop (bs.length - 8)).length = 8 by simp; omega] at e
  rw [e]
  simp
end Go.Proofs.Ytfijibengmgegaa
