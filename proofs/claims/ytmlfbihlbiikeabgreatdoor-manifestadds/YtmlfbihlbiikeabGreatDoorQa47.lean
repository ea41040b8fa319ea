/- simfs keeps its promises: all file systems at once, each with its own blocks. -/
import Derived.Test.YtmlfbihlbiikeabGreatDoorQa37
import Derived.Test.YtmlfbihlbiikeabGreatDoorQa35
import Derived.Test.YtmlfbihlbiikeabGreatDoorQa07
namespace Go.Proofs.YtmlfbihlbiikeabGreatDoor
open Go.RowKit
structure D1 (w : World) (R : Nat → Prop) (l : Fss) (gh : Nat → Gh) : Prop where
  old : ∀ k, R k → k < w.heap.size
  here : ∀ i p S, l[i]? = some (p, S) → Inv S ∧ FsAt w p S (gh i) ∧ ∀ b, Foot p (gh i) b → ¬ R b
  apart : ∀ i j p S q T, i ≠ j → l[i]? = some (p, S) → l[j]? = some (q, T) → ∀ b, Foot p (gh i) b → ¬ Foot q (gh j) b
def D0 : Face := fun w R l _ => ∃ gh, D1 w R l gh
theorem FsAt.kept {w w' : World} {p : Nat} {S : PFs} {g : Gh} (h : FsAt w p S g) (hs : ∀ k, Foot p g k → w'.heap[k]? = w.heap[k]?) : FsAt w' p S g := h.frame (fun k hk => hs k (.inr hk)) (Box.kept h.fs (hs p (.inl rfl))) rfl rfl rfl rfl
section
variable {w w' : World} {R R' : Nat → Prop} {l : Fss} {gh : Nat → Gh} {p q i : Nat} {S S' : PFs} {g' : Gh}
theorem D1.turn (h : D1 w R l gh) (hc : Chg R w w') : D1 w' (fun k => R k ∨ (w.heap.size ≤ k ∧ k < w'.heap.size)) l gh := by
  refine ⟨fun k hk => hk.elim (fun e => Nat.lt_of_lt_of_le (h.old k e) hc.size) (fun e => e.2), fun i p S e => ?_, h.apart⟩
  obtain ⟨hI, hf, hR⟩ := h.here i p S e
  refine ⟨hI, hf.kept fun k hk => hc.block k (hf.foot_lt hk) (hR k hk), fun b hb => ?_⟩
  rintro (e | e)
  · exact hR b hb e
  · have := hf.foot_lt hb
    omega
theorem D1.less (h : D1 w R l gh) (hR : ∀ k, R' k → R k) : D1 w R' l gh :=
  ⟨fun k hk => h.old k (hR k hk), fun i p S e => ⟨(h.here i p S e).1, (h.here i p S e).2.1, fun b hb e' => (h.here i p S e).2.2 b hb (hR b e')⟩, h.apart⟩
theorem D1.below (h : D1 w R l gh) (hb : Below w.heap.size w w') (hR : ∀ k, R' k → R k ∨ (w.heap.size ≤ k ∧ k < w'.heap.size)) : D1 w' R' l gh := (h.turn (Chg.of hb)).less hR
theorem kp_of (hb : Below w.heap.size w w') : Kp R w w' := ⟨hb.os, hb.tape, hb.output, hb.size, fun k _ hk => hb.block k hk⟩
theorem set_at {x y : Nat × PFs} {j : Nat} (h : (l.set i x)[j]? = some y) : (j = i ∧ y = x) ∨ (j ≠ i ∧ l[j]? = some y) := by
  by_cases e : i = j
  · subst e
    left
    rw [List.getElem?_set] at h
    simp only [↓reduceIte] at h
    split at h
    · exact ⟨rfl, (Option.some.inj h).symm⟩
    · cases h
  · right
    rw [List.getElem?_set, if_neg e] at h
    exact ⟨Ne.symm e, h⟩
theorem push_at {x y : Nat × PFs} {j : Nat} (h : (l ++ [x])[j]? = some y) : (j = l.length ∧ y = x) ∨ (j ≠ l.length ∧ l[j]? = some y) := by
  by_cases e : j < l.length
  · rw [List.getElem?_append_left e] at h
    exact .inr ⟨by omega, h⟩
  · rw [List.getElem?_append_right (by omega)] at h
    by_cases e2 : j = l.length
    · subst e2
      simp at h
      exact .inl ⟨rfl, h.symm⟩
    · have h3 : (1 : Nat) ≤ j - l.length := by omega
      rw [List.getElem?_eq_none (by simpa using h3)] at h
      cases h
theorem D1.set {r : Fss} (h : D1 w R l gh) (hi : l[i]? = some (p, S)) (hI : Inv S') (hf : FsAt w' p S' g') (ht : Turn p (gh i) g' w w') : D0 w' R (l.set i (p, S')) r ∧ Kp R w w' := by
  obtain ⟨_, hf0, hR0⟩ := h.here i p S hi
  have hfoot : ∀ b, Foot p g' b → Foot p (gh i) b ∨ w.heap.size ≤ b := fun b hb => hb.elim (fun e => .inl (.inl e)) (fun e => (ht.foot b e).imp .inr id)
  refine ⟨⟨fun j => if j = i then g' else gh j, fun k hk => Nat.lt_of_lt_of_le (h.old k hk) ht.chg.size, fun j q T e => ?_, fun j k q T u V hjk ej ek b hb hb' => ?_⟩, ht.chg.os, ht.chg.tape, ht.chg.output, ht.chg.size, fun k hk hlt => ht.chg.block k hlt (fun e => hR0 k e hk)⟩
  · rcases set_at e with ⟨rfl, e2⟩ | ⟨hj, e2⟩
    · obtain ⟨rfl, rfl⟩ := Prod.mk.inj e2
      simp only [↓reduceIte]
      refine ⟨hI, hf, fun b hb hRb => ?_⟩
      rcases hfoot b hb with e | e
      · exact hR0 b e hRb
      · have := h.old b hRb
        omega
    · simp only [if_neg hj]
      obtain ⟨a1, a2, a3⟩ := h.here j q T e2
      exact ⟨a1, a2.kept fun k hk => ht.chg.block k (a2.foot_lt hk) (fun e => h.apart j i q T p S hj e2 hi k hk e), a3⟩
  · rcases set_at ej with ⟨rfl, e2⟩ | ⟨hj, e2⟩
    · obtain ⟨rfl, rfl⟩ := Prod.mk.inj e2
      rcases set_at ek with ⟨rfl, _⟩ | ⟨hk, e3⟩
      · exact hjk rfl
      · simp only [↓reduceIte] at hb
        simp only [if_neg hk] at hb'
        rcases hfoot b hb with e | e
        · exact h.apart j k _ _ _ _ hjk hi e3 b e hb'
        · have := (h.here k _ _ e3).2.1.foot_lt hb'
          omega
    · simp only [if_neg hj] at hb
      rcases set_at ek with ⟨rfl, e3⟩ | ⟨hk, e3⟩
      · obtain ⟨rfl, rfl⟩ := Prod.mk.inj e3
        simp only [↓reduceIte] at hb'
        rcases hfoot b hb' with e | e
        · exact h.apart j k _ _ _ _ hjk e2 hi b hb e
        · have := (h.here j _ _ e2).2.1.foot_lt hb
          omega
      · simp only [if_neg hk] at hb'
        exact h.apart j k _ _ _ _ hjk e2 e3 b hb hb'
theorem D1.push {r : Fss} (h : D1 w R l gh) (hI : Inv S) (hf : FsAt w' q S g') (hnew : ∀ b, Foot q g' b → w.heap.size ≤ b) (hb : Below w.heap.size w w') : D0 w' R (l ++ [(q, S)]) r ∧ Kp R w w' := by
  refine ⟨⟨fun j => if j = l.length then g' else gh j, fun k hk => Nat.lt_of_lt_of_le (h.old k hk) hb.size, fun j q T e => ?_, fun j k q T u V hjk ej ek b hb1 hb' => ?_⟩, kp_of hb⟩
  · rcases push_at e with ⟨rfl, e2⟩ | ⟨hj, e2⟩
    · obtain ⟨rfl, rfl⟩ := Prod.mk.inj e2
      simp only [↓reduceIte]
      refine ⟨hI, hf, fun b hb hRb => ?_⟩
      have := h.old b hRb
      have := hnew b hb
      omega
    · simp only [if_neg hj]
      obtain ⟨a1, a2, a3⟩ := h.here j q T e2
      exact ⟨a1, a2.below hb, a3⟩
  · rcases push_at ej with ⟨rfl, e2⟩ | ⟨hj, e2⟩
    · obtain ⟨rfl, rfl⟩ := Prod.mk.inj e2
      rcases push_at ek with ⟨rfl, _⟩ | ⟨hk, e3⟩
      · exact hjk rfl
      · simp only [↓reduceIte] at hb1
        simp only [if_neg hk] at hb'
        have := (h.here k _ _ e3).2.1.foot_lt hb'
        have := hnew b hb1
        omega
    · simp only [if_neg hj] at hb1
      rcases push_at ek with ⟨rfl, e3⟩ | ⟨hk, e3⟩
      · obtain ⟨rfl, rfl⟩ := Prod.mk.inj e3
        simp only [↓reduceIte] at hb'
        have := (h.here j _ _ e2).2.1.foot_lt hb1
        have := hnew b hb'
        omega
      · simp only [if_neg hk] at hb'
        exact h.apart j k _ _ _ _ hjk e2 e3 b hb1 hb'
end
theorem gh0_inner {k : Nat} (h : Inner gh0 k) : False := by
  rcases h with e | e | e | ⟨j, hj, _⟩
  · cases e
  · cases e
  · cases e
  · exact hj.elim
theorem fsOk : FsOk D0 where
  zero := fun w => ⟨fun _ => gh0, fun _ hk => hk, fun i p S e => by simp at e, fun i j p S q T _ e => by simp at e⟩
  turn := fun ⟨gh, h⟩ hc => ⟨gh, h.turn hc⟩
  less := fun ⟨gh, h⟩ hR => ⟨gh, h.less hR⟩
  new := fun {w R l r} q hq ⟨gh, h⟩ => by
    refine (new_at w q).mono ?_
    rintro e w' (⟨h1, rfl, h2, h3, h4⟩ | ⟨h1, rfl, rfl⟩)
    · exact .inl ⟨h1, _, rfl, h.push (Inv.new (by omega)) h2 (fun b hb => hb.elim (fun e => Nat.le_of_eq e.symm) (fun e => (gh0_inner e).elim)) h3⟩
    · exact .inr ⟨h1, rfl, ⟨gh, h⟩, kp_of (Below.refl _ _)⟩
  create := fun i name ⟨gh, h⟩ hi ha => by
    obtain ⟨hI, hf, hR⟩ := h.here i _ _ hi
    refine (create_at hf hI ha name).mono ?_
    rintro e w' ⟨rfl, hI', g', hf', ht⟩
    exact ⟨rfl, h.set hi hI' hf' ht⟩
  append := fun i name a len cap bs ⟨gh, h⟩ hi ha hbs hlen => by
    obtain ⟨hI, hf, hR⟩ := h.here i _ _ hi
    refine (append_at hf hI ha name a len cap bs hbs hlen).mono ?_
    rintro e w' ⟨rfl, hI', g', hf', ht⟩
    exact ⟨rfl, h.set hi hI' hf' ht⟩
  sync := fun i name ⟨gh, h⟩ hi ha => by
    obtain ⟨hI, hf, hR⟩ := h.here i _ _ hi
    refine (sync_at hf hI ha name).mono ?_
    rintro e w' ⟨rfl, hI', g', hf', ht⟩
    exact ⟨rfl, h.set hi hI' hf' ht⟩
  rename := fun i a b ⟨gh, h⟩ hi ha => by
    obtain ⟨hI, hf, hR⟩ := h.here i _ _ hi
    refine (renames_at hf hI ha a b).mono ?_
    rintro e w' ⟨rfl, hI', g', hf', ht⟩
    exact ⟨rfl, h.set hi hI' hf' ht⟩
  remove := fun i name ⟨gh, h⟩ hi ha => by
    obtain ⟨hI, hf, hR⟩ := h.here i _ _ hi
    refine (remove_at hf hI ha name).mono ?_
    rintro e w' ⟨rfl, hI', g', hf', ht⟩
    exact ⟨rfl, h.set hi hI' hf' ht⟩
  syncDir := fun i ⟨gh, h⟩ hi ha => by
    obtain ⟨hI, hf, hR⟩ := h.here i _ _ hi
    refine (syncDir_at hf hI ha).mono ?_
    rintro e w' ⟨rfl, hI', g', hf', ht⟩
    exact ⟨rfl, h.set hi hI' hf' ht⟩
  read := fun {w R l r p S} i name ⟨gh, h⟩ hi => by
    obtain ⟨hI, hf, hR⟩ := h.here i _ _ hi
    refine (read_at hf hI name).mono ?_
    rintro e w' ⟨a, c, rfl, ho, hb⟩
    refine ⟨a, c, rfl, ho, ⟨gh, h.below hb fun k hk => hk.imp id fun e => ?_⟩, kp_of hb⟩
    refine ⟨?_, tag_lt (row_tag ho.row e)⟩
    rcases ho.row.2 with ⟨hv, _⟩ | ⟨g, cp, cur, hv, hB, _⟩
    · rw [hv] at e
      cases e
    · rw [hv] at e
      obtain rfl := Option.some.inj (show some g = some k from e)
      exact hB
end Go.Proofs.YtmlfbihlbiikeabGreatDoor
