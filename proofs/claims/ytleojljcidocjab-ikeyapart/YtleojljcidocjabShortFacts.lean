/- What holds of the short texts: how long they are, and where they stand. -/
import Derived.Test.YtleojljcidocjabPlainShort
namespace Go.Proofs.Ytleojljcidocjab

theorem less_prefix : ∀ (p x y : List UInt8), Op.bytesLess (p ++ x) (p ++ y) = Op.bytesLess x y
  | [], _, _ => rfl
  | c :: p, x, y => by
    rw [List.cons_append, List.cons_append, Op.bytesLess, less_prefix p x y]
    simp
theorem less_self : ∀ x : List UInt8, Op.bytesLess x x = false := by
  intro x
  have := less_prefix x [] []
  rw [List.append_nil] at this
  rw [this]
  rfl
theorem less_heads (c d : UInt8) (x y : List UInt8) (h : c.toNat < d.toNat) : Op.bytesLess (c :: x) (d :: y) = true := by
  rw [Op.bytesLess]
  simp [UInt8.lt_iff_toNat_lt, h]
theorem less_heads_no (c d : UInt8) (x y : List UInt8) (h : d.toNat < c.toNat) : Op.bytesLess (c :: x) (d :: y) = false := by
  rw [Op.bytesLess]
  have h1 : ¬ c < d := by rw [UInt8.lt_iff_toNat_lt]; omega
  have h2 : ¬ c = d := by intro e; subst e; omega
  simp [h1, h2]
theorem split_at (l : List UInt8) (d : Nat) (h : d < l.length) : l = l.take d ++ (l.getD d 0 :: l.drop (d + 1)) := by
  rw [← dropB l d h, List.take_append_drop]
theorem lcp_take : ∀ (a b : List UInt8), a.take (lcp a b) = b.take (lcp a b)
  | [], b => by cases b <;> simp [lcp]
  | _ :: _, [] => by simp [lcp]
  | x :: xs, y :: ys => by
    unfold lcp
    by_cases h : x = y
    · rw [if_pos h, List.take_succ_cons, List.take_succ_cons, lcp_take xs ys, h]
    · rw [if_neg h]
      rfl
theorem raise_len (l : List UInt8) (d : Nat) (h : d < l.length) : (raise l d).length ≤ l.length := by
  unfold raise
  simp
  omega
theorem inc_byte (c : UInt8) (h : c.toNat < 255) : (c + 1).toNat = c.toNat + 1 := by
  rw [UInt8.toNat_add]
  have : (1 : UInt8).toNat = 1 := rfl
  omega
theorem raise_above (l : List UInt8) (d : Nat) (h : d < l.length) (hc : (l.getD d 0).toNat < 255) : Op.bytesLess (raise l d) l = false := by
  have e := split_at l d h
  have e3 : Op.bytesLess (raise l d) (l.take d ++ (l.getD d 0 :: l.drop (d + 1))) = false := by
    unfold raise
    rw [less_prefix]
    exact less_heads_no _ _ _ _ (by rw [inc_byte _ hc]; omega)
  rw [← e] at e3
  exact e3
theorem raise_below (l r : List UInt8) (d : Nat) (hr : d < r.length) (ht : l.take d = r.take d) (hc : (l.getD d 0).toNat + 1 < (r.getD d 0).toNat) : Op.bytesLess (raise l d) r = true := by
  have e := split_at r d hr
  have hb := UInt8.toNat_lt (r.getD d 0)
  have e3 : Op.bytesLess (raise l d) (r.take d ++ (r.getD d 0 :: r.drop (d + 1))) = true := by
    unfold raise
    rw [ht, less_prefix]
    exact less_heads _ _ _ _ (by rw [inc_byte _ (by omega)]; omega)
  rw [← e] at e3
  exact e3
theorem below_at (l r : List UInt8) (d : Nat) (hl : d < l.length) (hr : d < r.length) (ht : l.take d = r.take d) (hc : (l.getD d 0).toNat < (r.getD d 0).toNat) : Op.bytesLess l r = true := by
  have e1 := split_at l d hl
  have e2 := split_at r d hr
  have e3 : Op.bytesLess (l.take d ++ (l.getD d 0 :: l.drop (d + 1))) (r.take d ++ (r.getD d 0 :: r.drop (d + 1))) = true := by
    rw [ht, less_prefix]
    exact less_heads _ _ _ _ hc
  rw [← e1, ← e2] at e3
  exact e3
theorem low_at : ∀ (l : List UInt8), low l < l.length → (l.getD (low l) 0).toNat < 255
  | [], h => by simp at h
  | x :: xs, h => by
    unfold low at h ⊢
    by_cases hx : x.toNat = 255
    · rw [if_pos hx] at h ⊢
      have := low_at xs (by simpa using h)
      simpa [List.getD] using this
    · rw [if_neg hx]
      have := UInt8.toNat_lt x
      simp [List.getD]
      omega
/-- What is behind a text is not longer, and not less. -/
theorem behind_facts (a : List UInt8) : (behind a).length ≤ a.length ∧ Op.bytesLess (behind a) a = false := by
  unfold behind
  by_cases h : low a = a.length
  · rw [if_pos h]
    exact ⟨Nat.le_refl _, less_self a⟩
  · rw [if_neg h]
    have hl : low a < a.length := by have := low_le a; omega
    exact ⟨raise_len a _ hl, raise_above a _ hl (low_at a hl)⟩
/-- What is between two texts is not longer than the first, not less than it, and less than the second where that is greater; else it is the first. -/
theorem between_facts (a b : List UInt8) : (between a b).length ≤ a.length ∧ Op.bytesLess (between a b) a = false ∧ (Op.bytesLess a b = true → Op.bytesLess (between a b) b = true) ∧ (Op.bytesLess a b = false → between a b = a) := by
  unfold between
  by_cases h : lcp a b = a.length ∨ lcp a b = b.length
  · rw [if_pos h]
    exact ⟨Nat.le_refl _, less_self a, fun h => h, fun _ => rfl⟩
  · rw [if_neg h]
    have hle := lcp_le a b
    have h1 : lcp a b < a.length := by omega
    have h2 : lcp a b < b.length := by omega
    have ht := lcp_take a b
    by_cases h3 : (a.getD (lcp a b) 0).toNat + 1 < (b.getD (lcp a b) 0).toNat
    · rw [if_pos h3]
      have hb := UInt8.toNat_lt (b.getD (lcp a b) 0)
      refine ⟨raise_len a _ h1, raise_above a _ h1 (by omega), fun _ => raise_below a b _ h2 ht h3, fun hn => ?_⟩
      rw [below_at a b _ h1 h2 ht (by omega)] at hn
      cases hn
    · rw [if_neg h3]
      exact ⟨Nat.le_refl _, less_self a, fun h => h, fun _ => rfl⟩
end Go.Proofs.Ytleojljcidocjab
