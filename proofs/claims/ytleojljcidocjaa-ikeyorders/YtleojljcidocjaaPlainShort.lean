/- Short texts between two and behind one, by plain functions. -/
import Derived.Test.YtleojljcidocjaaRaised
namespace Go.Proofs.Ytleojljcidocjaa

/-- How many bytes both texts begin with. -/
def lcp : List UInt8 → List UInt8 → Nat
  | x :: xs, y :: ys => if x = y then lcp xs ys + 1 else 0
  | _, _ => 0
theorem lcp_le : ∀ (a b : List UInt8), lcp a b ≤ a.length ∧ lcp a b ≤ b.length
  | [], b => by simp [lcp]
  | _ :: _, [] => by simp [lcp]
  | x :: xs, y :: ys => by
    unfold lcp
    have := lcp_le xs ys
    split <;> simp <;> omega
theorem lcp_nil (a b : List UInt8) (h : a = [] ∨ b = []) : lcp a b = 0 := by
  rcases h with rfl | rfl
  · cases b <;> rfl
  · cases a <;> rfl
theorem dropB (l : List UInt8) (k : Nat) (h : k < l.length) : l.drop k = l.getD k 0 :: l.drop (k + 1) := by
  rw [List.drop_eq_getElem_cons h]
  simp [List.getD, h]
theorem lcp_same (a b : List UInt8) (k : Nat) (h1 : k < a.length) (h2 : k < b.length) (h : (a.getD k 0).toNat = (b.getD k 0).toNat) : lcp (a.drop k) (b.drop k) = 1 + lcp (a.drop (k + 1)) (b.drop (k + 1)) := by
  rw [dropB a k h1, dropB b k h2, lcp, if_pos (UInt8.toNat_inj.1 h)]
  omega
theorem lcp_other (a b : List UInt8) (k : Nat) (h1 : k < a.length) (h2 : k < b.length) (h : (a.getD k 0).toNat ≠ (b.getD k 0).toNat) : lcp (a.drop k) (b.drop k) = 0 := by
  rw [dropB a k h1, dropB b k h2, lcp, if_neg (fun e => h (by rw [e]))]
theorem lcp_end (a b : List UInt8) (k : Nat) (h : a.length ≤ k ∨ b.length ≤ k) : lcp (a.drop k) (b.drop k) = 0 := by
  refine lcp_nil _ _ ?_
  rcases h with h | h
  · exact .inl (List.drop_eq_nil_of_le h)
  · exact .inr (List.drop_eq_nil_of_le h)

/-- A short text between two. -/
def between (a b : List UInt8) : List UInt8 :=
  if lcp a b = a.length ∨ lcp a b = b.length then a
  else if (a.getD (lcp a b) 0).toNat + 1 < (b.getD (lcp a b) 0).toNat then raise a (lcp a b) else a

/-- Where the first byte lies that is not 255. -/
def low : List UInt8 → Nat
  | [] => 0
  | x :: xs => if x.toNat = 255 then low xs + 1 else 0
theorem low_le : ∀ (a : List UInt8), low a ≤ a.length
  | [] => Nat.le_refl _
  | x :: xs => by
    unfold low
    have := low_le xs
    split <;> simp <;> omega
theorem low_full (a : List UInt8) (k : Nat) (h : k < a.length) (h1 : (a.getD k 0).toNat = 255) : low (a.drop k) = 1 + low (a.drop (k + 1)) := by
  rw [dropB a k h, low, if_pos h1]
  omega
theorem low_here (a : List UInt8) (k : Nat) (h : k < a.length) (h1 : (a.getD k 0).toNat ≠ 255) : low (a.drop k) = 0 := by
  rw [dropB a k h, low, if_neg h1]
theorem low_end (a : List UInt8) (k : Nat) (h : a.length ≤ k) : low (a.drop k) = 0 := by
  rw [List.drop_eq_nil_of_le h]
  rfl
/-- A short text behind one. -/
def behind (a : List UInt8) : List UInt8 := if low a = a.length then a else raise a (low a)
end Go.Proofs.Ytleojljcidocjaa
