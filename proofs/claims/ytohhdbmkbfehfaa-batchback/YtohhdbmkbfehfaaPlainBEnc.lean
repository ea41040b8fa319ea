/- Operations as bytes, by plain functions. -/
import Derived.Test.YtohhdbmkbfehfaaPlainBatch
namespace Go.Proofs.Ytohhdbmkbfehfaa
/-- The bytes of an operation. -/
def opEnc (o : Opn) : List UInt8 := loByte o.kind.toNat :: (txtPut o.key.data.toList ++ (if o.kind = 1 then txtPut o.val.data.toList else []))
def opsEnc : List Opn → List UInt8
  | [] => []
  | o :: r => opEnc o ++ opsEnc r
/-- The bytes of a batch. -/
def bEnc (q : Nat) (l : List Opn) : List UInt8 := if bchk q l = 0 then fxEnc q 8 ++ (fxEnc l.length 4 ++ opsEnc l) else []
theorem bEnc_yes {q : Nat} {l : List Opn} (h : bchk q l = 0) : bEnc q l = fxEnc q 8 ++ (fxEnc l.length 4 ++ opsEnc l) := by unfold bEnc; rw [if_pos h]
theorem bEnc_no {q : Nat} {l : List Opn} (h : ¬ bchk q l = 0) : bEnc q l = [] := by unfold bEnc; rw [if_neg h]
theorem opsEnc_append : ∀ (l m : List Opn), opsEnc (l ++ m) = opsEnc l ++ opsEnc m
  | [], _ => rfl
  | o :: r, m => by rw [List.cons_append, opsEnc, opsEnc, opsEnc_append r m, List.append_assoc]
theorem take_op (l : List Opn) (k : Nat) (h : k < l.length) : l.take (k + 1) = l.take k ++ [l.getD k opn0] := by
  rw [List.take_add_one]
  simp [List.getD, h]
theorem opsEnc_take (l : List Opn) (k : Nat) (h : k < l.length) : opsEnc (l.take (k + 1)) = opsEnc (l.take k) ++ opEnc (l.getD k opn0) := by
  rw [take_op l k h, opsEnc_append]
  simp [opsEnc]
theorem opsChk_all : ∀ (l : List Opn), opsChk l = 0 → ∀ k, k < l.length → opChk (l.getD k opn0) = 0
  | [], _, k, hk => by simp at hk
  | o :: r, h, k, hk => by
    unfold opsChk at h
    by_cases ho : opChk o = 0
    · rw [if_pos ho] at h
      cases k with
      | zero => simpa [List.getD] using ho
      | succ k =>
        have := opsChk_all r h k (by simpa using hk)
        simpa [List.getD] using this
    · rw [if_neg ho] at h
      exact absurd h ho
theorem bchk_zero {q : Nat} {l : List Opn} (h : bchk q l = 0) : l.length ≤ 64 ∧ q ≤ 72057594037927935 ∧ (0 < l.length → q ≤ 72057594037927936 - l.length) ∧ opsChk l = 0 := by
  unfold bchk at h
  by_cases h1 : 64 < l.length
  · rw [if_pos h1] at h; omega
  · rw [if_neg h1] at h
    by_cases h2 : 72057594037927935 < q ∨ (0 < l.length ∧ 72057594037927936 - l.length < q)
    · rw [if_pos h2] at h; omega
    · rw [if_neg h2] at h
      exact ⟨by omega, by omega, fun hp => by omega, h⟩
theorem txtPut_len (s : List UInt8) : (txtPut s).length ≤ 10 + s.length := by
  have := uvEnc_length s.length
  unfold txtPut
  rw [List.length_append]
  omega
theorem data_len (s : ByteArray) : s.data.toList.length = s.size := by rw [Array.length_toList]; rfl
theorem opEnc_len {o : Opn} (h : opChk o = 0) : (opEnc o).length ≤ 1100 := by
  obtain ⟨h1, h2, h3, h4⟩ := opChk_zero h
  have e1 := txtPut_len o.key.data.toList
  have e2 := txtPut_len o.val.data.toList
  rw [data_len] at e1 e2
  unfold opEnc
  rw [List.length_cons, List.length_append]
  split
  · omega
  · simp
    omega
theorem opsEnc_len (l : List Opn) (h : opsChk l = 0) : ∀ k, k ≤ l.length → (opsEnc (l.take k)).length ≤ k * 1100
  | 0, _ => by simp [opsEnc]
  | k + 1, hk => by
    rw [opsEnc_take l k (by omega), List.length_append]
    have := opsEnc_len l h k (by omega)
    have := opEnc_len (opsChk_all l h k (by omega))
    omega
end Go.Proofs.Ytohhdbmkbfehfaa
