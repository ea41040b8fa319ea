/- Entries in order: which the numbers find; sizes. Plainly: no program is spoken of here. -/
import Derived.Test.YtnggajconglfcaaDoorM8Law
import Derived.Test.YtnggajconglfcaaDoorM8Kcmp
namespace Go.Proofs.YtnggajconglfcaaDoor
set_option linter.unusedVariables false
set_option linter.unusedSimpArgs false
/-- The entry before an entry is of another user, or of another number. -/
def Fst (l : List KV) (i : Nat) : Prop := i = 0 ∨ ∀ (h : i - 1 < l.length) (h' : i < l.length), ¬ (l[i - 1].1.user = l[i].1.user ∧ l[i - 1].1.seq = l[i].1.seq)
theorem PT.Inv.lt {T : PT} (hT : T.Inv) {i j : Nat} (hij : i < j) (hj : j < T.kvs.length) : kb (T.kvs[i]'(by omega)).1 T.kvs[j].1 = true := List.pairwise_iff_getElem.1 hT.sorted i j (by omega) hj hij
theorem PT.Inv.finds {T : PT} (hT : T.Inv) {i : Nat} (hi : i < T.kvs.length) (hf : Fst T.kvs i) : lget T.kvs T.kvs[i].1.user T.kvs[i].1.seq = some T.kvs[i] := by
  have hno : ∀ j (hj : j < i), ¬ ((T.kvs[j]'(by omega)).1.user = T.kvs[i].1.user ∧ (T.kvs[j]'(by omega)).1.seq ≤ T.kvs[i].1.seq) := by
    rintro j hj ⟨hu, hs⟩
    have okj := hT.okk (List.getElem_mem (show j < T.kvs.length by omega))
    have oki := hT.okk (List.getElem_mem hi)
    have okp := hT.okk (List.getElem_mem (show i - 1 < T.kvs.length by omega))
    have h1 := hT.lt hj hi
    unfold kb at h1
    rw [if_pos hu, decide_eq_true_eq] at h1
    obtain ⟨_, kj⟩ := okj
    obtain ⟨_, ki⟩ := oki
    have kp := okp.2
    unfold IK.num at h1
    have hsq : (T.kvs[j]'(by omega)).1.seq = T.kvs[i].1.seq := by omega
    rcases hf with h0 | hf
    · omega
    · have hf := hf (by omega) hi
      by_cases hji : j = i - 1
      · subst hji
        exact hf ⟨hu, hsq⟩
      · have h2 := hT.lt (show j < i - 1 by omega) (show i - 1 < T.kvs.length by omega)
        have h3 := hT.lt (show i - 1 < i by omega) hi
        by_cases hpu : T.kvs[i - 1].1.user = T.kvs[i].1.user
        · unfold kb at h2 h3
          rw [if_pos (by rw [hu, hpu]), decide_eq_true_eq] at h2
          rw [if_pos hpu, decide_eq_true_eq] at h3
          unfold IK.num at h2 h3
          exact hf ⟨hpu, by omega⟩
        · have h4 : kb T.kvs[i - 1].1 (T.kvs[j]'(by omega)).1 = true := by
            unfold kb at h3 ⊢
            rw [if_neg hpu] at h3
            rw [if_neg (by rw [hu]; exact hpu), hu]
            exact h3
          rw [kb_asym (hT.okk (List.getElem_mem _)) okp h2] at h4
          cases h4
  unfold lget
  rw [List.find?_eq_some_iff_getElem]
  refine ⟨by simp, i, hi, rfl, fun j hj => ?_⟩
  have := decide_eq_false (hno j hj)
  simp only [this, Bool.not_false]
theorem told_own {e : KV} (h : EOk e) : (told (some e)).1 = e.2 ∧ (e.1.kind = 0 ∧ (told (some e)).2 = 1 ∨ e.1.kind = 1 ∧ (told (some e)).2 = 2) := by
  have e0 : told (some e) = if e.1.kind = 0 then (⟨#[]⟩, 1) else (e.2, 2) := rfl
  rw [e0]
  rcases (IK.ok_of h.key).1.2 with hk | hk
  · rw [if_pos hk]
    exact ⟨(h.del hk).symm, .inl ⟨hk, rfl⟩⟩
  · rw [if_neg (by omega)]
    exact ⟨rfl, .inr ⟨hk, rfl⟩⟩
theorem PT.add_cases (T : PT) (k : IK) (v : ByteArray) : (T.err k v = 0 ∧ (T.add k v).size = T.size + k.user.size + v.size + 16 ∧ (T.add k v).kvs.length = T.kvs.length + 1 ∧ k.user.size ≤ 64 ∧ v.size ≤ 1000) ∨ (T.err k v ≠ 0 ∧ T.add k v = T) := by
  by_cases h : T.err k v = 0
  · left
    have h2 := (PT.err_zero h).2.1
    have h3 := (IK.ok_of h2.key).2
    have h4 := h2.val
    refine ⟨h, ?_, ?_, h3, h4⟩
    · unfold PT.add
      rw [if_pos h]
      show lsize (insKV (k, v) T.kvs) = lsize T.kvs + _ + _ + _
      rw [insKV_size]
      show lsize T.kvs + (k.user.size + v.size + 16) = _
      omega
    · unfold PT.add
      rw [if_pos h]
      exact insKV_len
  · right
    refine ⟨h, ?_⟩
    unfold PT.add
    rw [if_neg h]
end Go.Proofs.YtnggajconglfcaaDoor
