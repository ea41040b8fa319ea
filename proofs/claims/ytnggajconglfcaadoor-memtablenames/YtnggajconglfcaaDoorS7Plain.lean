/- Keys in levels, each level in order, and operations that put keys step by step: plainly; no program is spoken of here. -/
import Derived.WalkKit
namespace Go.Proofs.YtnggajconglfcaaDoor
/-- Is a key less than another one? -/
def kl (a b : ByteArray) : Bool := Op.bytesLess a.toList b.toList
theorem bl_irr : ∀ x : List UInt8, Op.bytesLess x x = false
  | [] => rfl
  | a :: x => by
    unfold Op.bytesLess
    rw [bl_irr x]
    have : ¬ a < a := by show ¬ a.toNat < a.toNat; omega
    simp [this]
theorem bl_trans : ∀ x y z : List UInt8, Op.bytesLess x y = true → Op.bytesLess y z = true → Op.bytesLess x z = true
  | _, [], _, h, _ => by unfold Op.bytesLess at h; cases h
  | _, _ :: _, [], _, h => by unfold Op.bytesLess at h; cases h
  | [], _ :: _, _ :: _, _, _ => by unfold Op.bytesLess; rfl
  | a :: x, b :: y, c :: z, h, k => by
    unfold Op.bytesLess at h k ⊢
    have ih := bl_trans x y z
    simp only [Bool.or_eq_true, Bool.and_eq_true, decide_eq_true_eq, beq_iff_eq] at h k ⊢
    have e1 : ∀ u v : UInt8, u < v ↔ u.toNat < v.toNat := fun u v => Iff.rfl
    rcases h with h | ⟨rfl, h⟩
    · rcases k with k | ⟨rfl, k⟩
      · left
        rw [e1] at h k ⊢
        omega
      · exact .inl h
    · rcases k with k | ⟨rfl, k⟩
      · exact .inl k
      · exact .inr ⟨rfl, ih h k⟩
theorem bl_total : ∀ x y : List UInt8, Op.bytesLess x y = false → Op.bytesLess y x = false → x = y
  | [], [], _, _ => rfl
  | [], _ :: _, h, _ => by unfold Op.bytesLess at h; cases h
  | _ :: _, [], _, h => by unfold Op.bytesLess at h; cases h
  | a :: x, b :: y, h, k => by
    unfold Op.bytesLess at h k
    have ih := bl_total x y
    have e1 : ∀ u v : UInt8, u < v ↔ u.toNat < v.toNat := fun u v => Iff.rfl
    simp only [Bool.or_eq_false_iff, decide_eq_false_iff_not, Bool.and_eq_false_iff, beq_eq_false_iff_ne] at h k
    obtain ⟨h1, h2⟩ := h
    obtain ⟨k1, k2⟩ := k
    rw [e1] at h1 k1
    have : a = b := UInt8.toNat_inj.1 (by omega)
    subst this
    rw [ih (by simpa using h2) (by simpa using k2)]
theorem kl_irr (a : ByteArray) : kl a a = false := bl_irr _
theorem kl_trans {a b c : ByteArray} (h : kl a b = true) (k : kl b c = true) : kl a c = true := bl_trans _ _ _ h k
theorem kl_total {a b : ByteArray} (h : kl a b = false) (k : kl b a = false) : a = b := by
  have := bl_total _ _ h k
  rw [ByteArray.toList_eq, ByteArray.toList_eq] at this
  cases a; cases b
  simp only [ByteArray.mk.injEq]
  exact Array.ext' this
theorem kl_asym {a b : ByteArray} (h : kl a b = true) : kl b a = false := by
  cases k : kl b a with
  | false => rfl
  | true => have := kl_trans h k; rw [kl_irr] at this; cases this
theorem kl_ne {a b : ByteArray} (h : kl a b = true) : a ≠ b := by
  rintro rfl
  rw [kl_irr] at h
  cases h
/-- What stands behind in a level: 0 is ahead of all; j + 1 is j. -/
def nxt : List Nat → Nat → Option Nat
  | [], _ => none
  | x :: r, a => if a = 0 then some x else if a = x + 1 then r.head? else nxt r a
/-- One more, behind. -/
def ins (i : Nat) : List Nat → Nat → List Nat
  | [], _ => [i]
  | x :: r, a => if a = 0 then i :: x :: r else if a = x + 1 then x :: i :: r else x :: ins i r a
/-- A place of a level. -/
def InL (l : List Nat) (a : Nat) : Prop := a = 0 ∨ ∃ j, a = j + 1 ∧ j ∈ l
theorem nxt_zero (l : List Nat) : nxt l 0 = l.head? := by cases l <;> simp [nxt]
theorem nxt_mem : ∀ {l : List Nat} {a j : Nat}, nxt l a = some j → j ∈ l
  | [], _, _, h => by simp [nxt] at h
  | x :: r, a, j, h => by
    unfold nxt at h
    split at h
    · simp at h; simp [h]
    · split at h
      · exact List.mem_cons_of_mem _ (List.mem_of_mem_head? h)
      · exact List.mem_cons_of_mem _ (nxt_mem h)
theorem nxt_at : ∀ {l : List Nat}, l.Nodup → ∀ (k : Nat) (h : k < l.length), nxt l (l[k] + 1) = l[k + 1]?
  | [], _, k, h => by simp at h
  | x :: r, hn, 0, h => by
    simp [nxt, List.head?_eq_getElem?]
  | x :: r, hn, k + 1, h => by
    have hn' := List.nodup_cons.1 hn
    have hk : k < r.length := by simpa using h
    have hne : ¬ r[k] + 1 = x + 1 := by
      intro e
      have e' : r[k] = x := by omega
      exact hn'.1 (e' ▸ List.getElem_mem hk)
    have ih := nxt_at hn'.2 k hk
    simp only [List.getElem_cons_succ, List.getElem?_cons_succ, nxt]
    rw [if_neg (by omega), if_neg hne]
    exact ih
theorem mem_ins {i : Nat} : ∀ {l : List Nat} {a x : Nat}, x ∈ ins i l a ↔ x = i ∨ x ∈ l
  | [], a, x => by simp [ins]
  | y :: r, a, x => by
    unfold ins
    split
    · simp
    · split
      · simp only [List.mem_cons]; constructor <;> (rintro (h | h | h) <;> simp [h])
      · simp only [List.mem_cons, mem_ins (l := r)]; constructor <;> (rintro (h | h | h) <;> simp [h])
theorem ins_length {i : Nat} : ∀ (l : List Nat) (a : Nat), (ins i l a).length = l.length + 1
  | [], a => rfl
  | y :: r, a => by
    unfold ins
    split
    · simp
    · split
      · simp
      · simp [ins_length r a]
/-- The links behind a key that came in. -/
theorem nxt_ins_at {i : Nat} : ∀ {l : List Nat} {a : Nat}, InL l a → nxt (ins i l a) a = some i
  | [], a, h => by
    rcases h with rfl | ⟨j, rfl, hj⟩
    · simp [ins, nxt]
    · simp at hj
  | y :: r, a, h => by
    unfold ins
    split
    · rename_i h0; simp [nxt, h0]
    · rename_i h0
      split
      · rename_i h1; simp [nxt, h1]
      · rename_i h1
        have hr : InL r a := by
          rcases h with rfl | ⟨j, rfl, hj⟩
          · exact absurd rfl h0
          · rcases List.mem_cons.1 hj with rfl | hj
            · exact absurd rfl h1
            · exact .inr ⟨j, rfl, hj⟩
        simp only [nxt, if_neg h0, if_neg h1]
        exact nxt_ins_at hr
theorem nxt_ins_new {i : Nat} : ∀ {l : List Nat} {a : Nat}, InL l a → i ∉ l → nxt (ins i l a) (i + 1) = nxt l a
  | [], a, h, _ => by
    simp [ins, nxt]
  | y :: r, a, h, hi => by
    have hy : ¬ i + 1 = y + 1 := fun e => hi (by simp; omega)
    have hir : i ∉ r := fun e => hi (List.mem_cons_of_mem _ e)
    unfold ins
    split
    · rename_i h0; simp [nxt, h0]
    · rename_i h0
      split
      · rename_i h1
        simp only [nxt, if_neg (Nat.succ_ne_zero i), if_neg hy, if_pos, if_neg h0, if_pos h1]
      · rename_i h1
        have hr : InL r a := by
          rcases h with rfl | ⟨j, rfl, hj⟩
          · exact absurd rfl h0
          · rcases List.mem_cons.1 hj with rfl | hj
            · exact absurd rfl h1
            · exact .inr ⟨j, rfl, hj⟩
        simp only [nxt, if_neg (Nat.succ_ne_zero i), if_neg hy, if_neg h0, if_neg h1]
        exact nxt_ins_new hr hir
theorem nxt_ins_other {i : Nat} : ∀ {l : List Nat} {a b : Nat}, InL l a → b ≠ a → b ≠ i + 1 → nxt (ins i l a) b = nxt l b
  | [], a, b, h, hb, k => by
    rcases h with rfl | ⟨j, rfl, hj⟩
    · simp [ins, nxt, hb, k]
    · simp at hj
  | y :: r, a, b, h, hb, k => by
    unfold ins
    split
    · rename_i h0
      subst h0
      simp [nxt, hb, k]
    · rename_i h0
      split
      · rename_i h1
        subst h1
        by_cases b0 : b = 0
        · simp [nxt, b0]
        · simp [nxt, b0, hb, k]
      · rename_i h1
        have hr : InL r a := by
          rcases h with rfl | ⟨j, rfl, hj⟩
          · exact absurd rfl h0
          · rcases List.mem_cons.1 hj with rfl | hj
            · exact absurd rfl h1
            · exact .inr ⟨j, rfl, hj⟩
        have e0 := nxt_ins_other (b := 0) hr (fun e => h0 e.symm) (by omega : 0 ≠ i + 1)
        rw [nxt_zero, nxt_zero] at e0
        by_cases b0 : b = 0
        · simp [nxt, b0]
        · by_cases b1 : b = y + 1
          · simp [nxt, b1, e0]
          · simp only [nxt, if_neg b0, if_neg b1]
            exact nxt_ins_other hr hb k
end Go.Proofs.YtnggajconglfcaaDoor
