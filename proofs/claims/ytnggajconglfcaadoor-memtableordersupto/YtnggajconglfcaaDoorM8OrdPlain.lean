/- The order of adding is not seen: plainly. -/
import Derived.Test.YtnggajconglfcaaDoorM8Law
namespace Go.Proofs.YtnggajconglfcaaDoor
set_option linter.unusedVariables false
theorem PT.err_of {T : PT} {k : IK} {v : ByteArray} (hf : T.frozen = false) (h : EOk (k, v)) (hn : ¬ ∃ u, (k, u) ∈ T.kvs) : T.err k v = 0 := by
  unfold PT.err
  rw [hf, if_neg (by decide), if_neg (by simpa using h.key), if_neg, if_neg (fun hc => hn (any_iff.1 hc))]
  rintro (hc | ⟨hc, hz⟩)
  · have : v.size ≤ 1000 := h.val
    omega
  · have := h.del hc
    have e : v = ⟨#[]⟩ := this
    rw [e] at hz
    exact hz rfl
theorem PT.add_frozen {T : PT} {k : IK} {v : ByteArray} : (T.add k v).frozen = T.frozen := by
  unfold PT.add
  split <;> rfl
theorem PT.adds_frozen : ∀ (l : List KV) (T : PT), (T.adds l).frozen = T.frozen
  | [], _ => rfl
  | e :: r, T => by
    show ((T.add e.1 e.2).adds r).frozen = _
    rw [PT.adds_frozen r, PT.add_frozen]
theorem PT.adds_inv : ∀ (l : List KV) {T : PT}, T.Inv → (T.adds l).Inv
  | [], _, h => h
  | e :: r, T, h => PT.adds_inv r (h.add e.1 e.2)
/-- No key comes twice with unlike values. -/
def Alike (l : List KV) : Prop := ∀ a ∈ l, ∀ b ∈ l, a.1 = b.1 → a.2 = b.2
theorem adds_mem : ∀ (n : Nat) (l : List KV), l.length = n → Alike l → ∀ e, e ∈ (PT.new.adds l).kvs ↔ e ∈ l ∧ EOk e
  | 0, l, hl, _, e => by
    obtain rfl := List.eq_nil_of_length_eq_zero hl
    simp [PT.adds, PT.new]
  | n + 1, l, hl, ha, e => by
    have hne : l ≠ [] := by rintro rfl; simp at hl
    have hsp := List.dropLast_concat_getLast hne
    generalize l.dropLast = r at hsp
    generalize l.getLast hne = x at hsp
    subst hsp
    have hr : r.length = n := by simpa using hl
    have ih := adds_mem n r hr (fun a h1 b h2 => ha a (List.mem_append_left _ h1) b (List.mem_append_left _ h2))
    have hf : (PT.new.adds r).frozen = false := PT.adds_frozen r PT.new
    rw [PT.adds_snoc]
    by_cases hx : (PT.new.adds r).err x.1 x.2 = 0
    · obtain ⟨_, h2, h3⟩ := PT.err_zero hx
      rw [PT.add_yes hx]
      show e ∈ insKV (x.1, x.2) (PT.new.adds r).kvs ↔ _
      rw [mem_insKV, ih, List.mem_append, List.mem_singleton]
      constructor
      · rintro (rfl | ⟨h4, h5⟩)
        · exact ⟨.inr rfl, h2⟩
        · exact ⟨.inl h4, h5⟩
      · rintro ⟨h4 | h4, h5⟩
        · exact .inr ⟨h4, h5⟩
        · exact .inl h4
    · rw [PT.add_no hx, ih, List.mem_append, List.mem_singleton]
      constructor
      · rintro ⟨h4, h5⟩
        exact ⟨.inl h4, h5⟩
      · rintro ⟨h4 | h4, h5⟩
        · exact ⟨h4, h5⟩
        · subst h4
          by_cases hin : ∃ u, (e.1, u) ∈ (PT.new.adds r).kvs
          · obtain ⟨u, hu⟩ := hin
            have h6 := (ih _).1 hu
            have h7 := ha e (by simp) (e.1, u) (List.mem_append_left _ h6.1) rfl
            have h7' : e.2 = u := h7
            have h8 : e = (e.1, u) := by rw [← h7']
            rw [h8]
            exact h6
          · exact absurd (PT.err_of hf h5 hin) hx
theorem kv_same : ∀ {l k : List KV}, (∀ x ∈ l, x.1.Ok) → (∀ x ∈ k, x.1.Ok) → l.Pairwise (fun a b => kb a.1 b.1 = true) → k.Pairwise (fun a b => kb a.1 b.1 = true) → (∀ x, x ∈ l ↔ x ∈ k) → l = k
  | [], [], _, _, _, _, _ => rfl
  | [], y :: s, _, _, _, _, h => absurd ((h y).2 (by simp)) (by simp)
  | x :: r', [], _, _, _, _, h => absurd ((h x).1 (by simp)) (by simp)
  | x :: r', y :: s, ol, ok, hl, hk, h => by
    have asym : ∀ a ∈ x :: r', ∀ b ∈ x :: r', kb a.1 b.1 = true → kb b.1 a.1 = true → False := fun a ha b hb h1 h2 => by
      rw [kb_asym (ol a ha) (ol b hb) h1] at h2
      cases h2
    have hl' := List.pairwise_cons.1 hl
    have hk' := List.pairwise_cons.1 hk
    have hyl : y ∈ x :: r' := (h y).2 (by simp)
    have hxy : x = y := by
      rcases List.mem_cons.1 ((h x).1 (by simp)) with e | e
      · exact e
      · rcases List.mem_cons.1 hyl with e2 | e2
        · exact e2.symm
        · exact (asym x (by simp) y hyl (hl'.1 y e2) (hk'.1 x e)).elim
    subst hxy
    have hnx : x ∉ r' := fun e => asym x (by simp) x (by simp) (hl'.1 x e) (hl'.1 x e)
    have hns : x ∉ s := fun e => asym x (by simp) x (by simp) (hk'.1 x e) (hk'.1 x e)
    rw [kv_same (fun z hz => ol z (List.mem_cons_of_mem _ hz)) (fun z hz => ok z (List.mem_cons_of_mem _ hz)) hl'.2 hk'.2 fun z => ⟨fun hz => by
      rcases List.mem_cons.1 ((h z).1 (List.mem_cons_of_mem _ hz)) with e | e
      · exact absurd (e ▸ hz) hnx
      · exact e, fun hz => by
      rcases List.mem_cons.1 ((h z).2 (List.mem_cons_of_mem _ hz)) with e | e
      · exact absurd (e ▸ hz) hns
      · exact e⟩]
theorem orders_same {l : List KV} (h : Alike l) : PT.new.adds (orderOf true l) = PT.new.adds (orderOf false l) := by
  have i1 := PT.adds_inv (orderOf true l) PT.new_inv
  have i2 := PT.adds_inv (orderOf false l) PT.new_inv
  have f1 := PT.adds_frozen (orderOf true l) PT.new
  have f2 := PT.adds_frozen (orderOf false l) PT.new
  have hk : (PT.new.adds (orderOf true l)).kvs = (PT.new.adds (orderOf false l)).kvs := by
    refine kv_same (fun x hx => i1.okk hx) (fun x hx => i2.okk hx) i1.sorted i2.sorted fun e => ?_
    rw [adds_mem _ _ rfl, adds_mem _ _ rfl]
    · show e ∈ l.reverse ∧ _ ↔ e ∈ l ∧ _
      rw [List.mem_reverse]
    · exact h
    · intro a ha b hb
      exact h a (List.mem_reverse.1 ha) b (List.mem_reverse.1 hb)
  generalize PT.new.adds (orderOf true l) = A at *
  generalize PT.new.adds (orderOf false l) = B at *
  cases A; cases B
  simp only at hk f1 f2
  rw [hk, f1, f2]
end Go.Proofs.YtnggajconglfcaaDoor
