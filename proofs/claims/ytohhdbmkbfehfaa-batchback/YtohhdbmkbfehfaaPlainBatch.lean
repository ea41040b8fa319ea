/- What is wrong with operations, by plain functions. -/
import Derived.Test.YtohhdbmkbfehfaaOps
import Derived.Test.YtohhdbmkbfehfaaPlainPut
namespace Go.Proofs.Ytohhdbmkbfehfaa
/-- What is wrong with an operation. -/
def opChk (o : Opn) : Nat := if ¬ (o.kind = 0 ∨ o.kind = 1) then 23 else if 64 < o.key.size then 21 else if 1000 < o.val.size ∨ (o.kind = 0 ∧ 0 < o.val.size) then 31 else 0
def opsChk : List Opn → Nat
  | [] => 0
  | o :: r => if opChk o = 0 then opsChk r else opChk o
/-- What is wrong with operations that begin with a number. -/
def bchk (seq : Nat) (l : List Opn) : Nat := if 64 < l.length then 30 else if 72057594037927935 < seq ∨ (0 < l.length ∧ 72057594037927936 - l.length < seq) then 22 else opsChk l
theorem opChk_kind {o : Opn} (h : ¬ (o.kind = 0 ∨ o.kind = 1)) : opChk o = 23 := by unfold opChk; rw [if_pos h]
theorem opChk_key {o : Opn} (h : o.kind = 0 ∨ o.kind = 1) (h1 : 64 < o.key.size) : opChk o = 21 := by unfold opChk; rw [if_neg (fun hn => hn h), if_pos h1]
theorem opChk_val {o : Opn} (h : o.kind = 0 ∨ o.kind = 1) (h1 : ¬ 64 < o.key.size) (h2 : 1000 < o.val.size ∨ (o.kind = 0 ∧ 0 < o.val.size)) : opChk o = 31 := by unfold opChk; rw [if_neg (fun hn => hn h), if_neg h1, if_pos h2]
theorem opChk_ok {o : Opn} (h : o.kind = 0 ∨ o.kind = 1) (h1 : ¬ 64 < o.key.size) (h2 : ¬ (1000 < o.val.size ∨ (o.kind = 0 ∧ 0 < o.val.size))) : opChk o = 0 := by unfold opChk; rw [if_neg (fun hn => hn h), if_neg h1, if_neg h2]
theorem opChk_zero {o : Opn} (h : opChk o = 0) : (o.kind = 0 ∨ o.kind = 1) ∧ o.key.size ≤ 64 ∧ o.val.size ≤ 1000 ∧ (o.kind = 0 → o.val.size = 0) := by
  by_cases h1 : o.kind = 0 ∨ o.kind = 1
  · by_cases h2 : 64 < o.key.size
    · rw [opChk_key h1 h2] at h; omega
    · by_cases h3 : 1000 < o.val.size ∨ (o.kind = 0 ∧ 0 < o.val.size)
      · rw [opChk_val h1 h2 h3] at h; omega
      · exact ⟨h1, by omega, by omega, fun h0 => by omega⟩
  · rw [opChk_kind h1] at h; omega
theorem no31_0 {v : Nat} {P : Prop} (h : ¬ 0 < v) : ¬ (1000 < v ∨ (P ∧ 0 < v)) := fun g => g.elim (fun g => h (by omega)) (fun g => h g.2)
theorem no31_1 {v : Nat} {P : Prop} (h : ¬ 1000 < v) (hp : ¬ P) : ¬ (1000 < v ∨ (P ∧ 0 < v)) := fun g => g.elim h (fun g => hp g.1)
theorem opsChk_at (l : List Opn) (k : Nat) (h : k < l.length) : opsChk (l.drop k) = if opChk (l.getD k opn0) = 0 then opsChk (l.drop (k + 1)) else opChk (l.getD k opn0) := by
  rw [drop_op l k h]
  rfl
theorem opsChk_end (l : List Opn) (k : Nat) (h : l.length ≤ k) : opsChk (l.drop k) = 0 := by rw [List.drop_eq_nil_of_le h]; rfl
end Go.Proofs.Ytohhdbmkbfehfaa
