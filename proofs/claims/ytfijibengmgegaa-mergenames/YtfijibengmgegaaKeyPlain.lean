/- Keys as bytes, by plain functions. -/
import Derived.Test.YtfijibengmgegaaChk
import Derived.Test.YtfijibengmgegaaPlainPut
namespace Go.Proofs.Ytfijibengmgegaa
/-- The bytes of a key, none if it may not be. -/
def keyEnc (s : List UInt8) (q : Nat) (k : Int) : List UInt8 := if chk s.length q k = 0 then s ++ fxEnc (q * 256 + k.toNat) 8 else []
theorem keyEnc_yes {s : List UInt8} {q : Nat} {k : Int} (h : chk s.length q k = 0) : keyEnc s q k = s ++ fxEnc (q * 256 + k.toNat) 8 := by unfold keyEnc; rw [if_pos h]
theorem keyEnc_no {s : List UInt8} {q : Nat} {k : Int} (h : ¬ chk s.length q k = 0) : keyEnc s q k = [] := by unfold keyEnc; rw [if_neg h]
theorem chk_zero {n q : Nat} {k : Int} (h : chk n q k = 0) : n ≤ 64 ∧ q ≤ 72057594037927935 ∧ (k = 0 ∨ k = 1) := by
  unfold chk at h
  split at h
  · simp at h
  · split at h
    · simp at h
    · split at h
      · exact ⟨by omega, by omega, by assumption⟩
      · simp at h
theorem chk_mk {n q : Nat} {k : Int} (h1 : n ≤ 64) (h2 : q ≤ 72057594037927935) (h3 : k = 0 ∨ k = 1) : chk n q k = 0 := by
  unfold chk
  rw [if_neg (by omega), if_neg (by omega), if_pos h3]
/-- The number in the last 8 bytes. -/
def keyNum (bs : List UInt8) : Nat := leNat (bs.drop (bs.length - 8))
/-- Bytes that are a key's. -/
def keyOk (bs : List UInt8) : Bool := decide (8 ≤ bs.length) && (decide (bs.length ≤ 72) && decide (keyNum bs % 256 ≤ 1))
theorem keyOk_iff {bs : List UInt8} : keyOk bs = true ↔ 8 ≤ bs.length ∧ bs.length ≤ 72 ∧ keyNum bs % 256 ≤ 1 := by simp [keyOk]
def keyUser (bs : List UInt8) : List UInt8 := if keyOk bs then bs.take (bs.length - 8) else []
def keySeq (bs : List UInt8) : Nat := if keyOk bs then keyNum bs / 256 else 0
def keyKind (bs : List UInt8) : Nat := if keyOk bs then keyNum bs % 256 else 0
def keyErr (bs : List UInt8) : Nat := if keyOk bs then 0 else 20
theorem keyNum_lt (bs : List UInt8) : keyNum bs < 18446744073709551616 := leNat_lt64 _ (by simp; omega)
theorem fxEnc_le : ∀ (l : List UInt8) , fxEnc (leNat l) l.length = l := by
  have h : ∀ (l r : List UInt8), fxEnc (leNat (l ++ r)) l.length = l := by
    intro l
    induction l with
    | nil => intro r; rfl
    | cons c l ih =>
      intro r
      have hs : ∀ (n j : Nat), fxEnc n (j + 1) = loByte n :: fxEnc (n / 256) j := by
        intro n j
        induction j with
        | zero => simp [fxEnc]
        | succ j ihj =>
          rw [fxEnc, ihj, fxEnc, List.cons_append]
          congr 3
          rw [Nat.div_div_eq_div_mul, show (256 : Nat) * 2 ^ (8 * j) = 2 ^ (8 * (j + 1)) by rw [show 8 * (j + 1) = 8 + 8 * j by omega, Nat.pow_add]]
      rw [List.length_cons, hs]
      have hc := UInt8.toNat_lt c
      have e1 : leNat (c :: l ++ r) = c.toNat + 256 * leNat (l ++ r) := rfl
      rw [e1, show (c.toNat + 256 * leNat (l ++ r)) / 256 = leNat (l ++ r) by omega, ih r]
      congr 1
      apply UInt8.toNat_inj.1
      rw [loByte_toNat]
      omega
  intro l
  simpa using h l []
theorem keyNum_enc (s : List UInt8) (n : Nat) (h : n < 18446744073709551616) : keyNum (s ++ fxEnc n 8) = n := by
  unfold keyNum
  rw [List.length_append, fxEnc_length, Nat.add_sub_cancel, List.drop_left', leNat_fxEnc]
  · exact Nat.mod_eq_of_lt h
  · rfl
/-- A key that may be is read as it was laid. -/
theorem key_back (s : List UInt8) (q : Nat) (k : Int) (h : chk s.length q k = 0) :
    keyUser (keyEnc s q k) = s ∧ keySeq (keyEnc s q k) = q ∧ ((keyKind (keyEnc s q k) : Nat) : Int) = k ∧ keyErr (keyEnc s q k) = 0 := by
  obtain ⟨h1, h2, h3⟩ := chk_zero h
  have hn : q * 256 + k.toNat < 18446744073709551616 := by omega
  have hk := keyNum_enc s _ hn
  have hok : keyOk (s ++ fxEnc (q * 256 + k.toNat) 8) = true := by
    rw [keyOk_iff, hk, List.length_append, fxEnc_length]
    omega
  rw [keyEnc_yes h]
  unfold keyUser keySeq keyKind keyErr
  rw [if_pos hok, if_pos hok, if_pos hok, if_pos hok, hk, List.length_append, fxEnc_length, Nat.add_sub_cancel]
  refine ⟨by simp, by omega, by omega, rfl⟩
/-- Bytes that are a key's are laid as they were read. -/
theorem key_laid (bs : List UInt8) (h : keyOk bs = true) : chk (keyUser bs).length (keySeq bs) (keyKind bs) = 0 ∧ keyEnc (keyUser bs) (keySeq bs) (keyKind bs) = bs := by
  have hok := keyOk_iff.1 h
  have hlt := keyNum_lt bs
  have hc : chk (keyUser bs).length (keySeq bs) (keyKind bs) = 0 := by
    unfold keyUser keySeq keyKind
    rw [if_pos h, if_pos h, if_pos h]
    refine chk_mk ?_ ?_ ?_
    · simp; omega
    · omega
    · omega
  refine ⟨hc, ?_⟩
  rw [keyEnc_yes hc]
  unfold keyUser keySeq keyKind
  rw [if_pos h, if_pos h, if_pos h, show keyNum bs / 256 * 256 + ((keyNum bs % 256 : Nat) : Int).toNat = keyNum bs by omega]
  unfold keyNum
  have e := fxEnc_le (bs.drop (bs.length - 8))
  rw [show (bs.drop (bs.length - 8)).length = 8 by simp; omega] at e
  rw [e]
  simp
end Go.Proofs.Ytfijibengmgegaa
