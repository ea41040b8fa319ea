/- Where one comes to from the highest level down: plainly. -/
import Derived.Test.YtnggajconglfcaaDoorS7Keys
namespace Go.Proofs.YtnggajconglfcaaDoor
open Go.RowKit
/-- The place behind so many. -/
def place (L : List Nat) (k : Nat) : Nat := if k = 0 then 0 else L.getD (k - 1) 0 + 1
def cnt (P : Nat → Bool) (L : List Nat) : Nat := (L.takeWhile P).length
theorem cnt_le (P : Nat → Bool) : ∀ L : List Nat, cnt P L ≤ L.length
  | [] => Nat.le_refl _
  | x :: r => by
    have ih := cnt_le P r
    unfold cnt at ih ⊢
    rw [List.takeWhile_cons]
    split
    · simp; omega
    · simp
theorem cnt_lt (P : Nat → Bool) : ∀ (L : List Nat) (k : Nat), k < cnt P L → ∃ h : k < L.length, P L[k] = true
  | [], k, h => by simp [cnt] at h
  | x :: r, k, h => by
    unfold cnt at h
    rw [List.takeWhile_cons] at h
    split at h
    · rename_i hp
      cases k with
      | zero => exact ⟨by simp, by simpa using hp⟩
      | succ k =>
        obtain ⟨h1, h2⟩ := cnt_lt P r k (by unfold cnt; simpa using h)
        exact ⟨by simpa using h1, by simpa using h2⟩
    · simp at h
theorem cnt_at (P : Nat → Bool) : ∀ (L : List Nat) (h : cnt P L < L.length), P L[cnt P L] = false
  | [], h => by simp at h
  | x :: r, h => by
    by_cases hp : P x = true
    · have e : cnt P (x :: r) = cnt P r + 1 := by simp [cnt, hp]
      have h' : cnt P r < r.length := by rw [e] at h; simpa using h
      have ih := cnt_at P r h'
      simp only [e, List.getElem_cons_succ]
      exact ih
    · have e : cnt P (x :: r) = 0 := by simp [cnt, hp]
      simp only [e, List.getElem_cons_zero]
      simpa using hp
theorem cnt_ge (P : Nat → Bool) : ∀ (L : List Nat) (k : Nat), k ≤ L.length → (∀ i (h : i < L.length), i < k → P L[i] = true) → k ≤ cnt P L
  | _, 0, _, _ => Nat.zero_le _
  | [], k + 1, h, _ => by simp at h
  | x :: r, k + 1, h, hp => by
    have h0 := hp 0 (by simp) (by omega)
    simp only [List.getElem_cons_zero] at h0
    have e : cnt P (x :: r) = cnt P r + 1 := by simp [cnt, h0]
    rw [e]
    have := cnt_ge P r k (by simpa using h) (fun i hi hik => by
      have := hp (i + 1) (by simpa using hi) (by omega)
      simpa using this)
    omega
/-- Where in a row is a block? -/
def posIn (b : Nat) : List Nat → Nat
  | [] => 0
  | x :: r => if x = b then 0 else posIn b r + 1
theorem posIn_at : ∀ (L : List Nat), L.Nodup → ∀ (k : Nat) (h : k < L.length), posIn L[k] L = k
  | [], _, k, h => by simp at h
  | x :: r, hn, 0, h => by simp [posIn]
  | x :: r, hn, k + 1, h => by
    have hn' := List.nodup_cons.1 hn
    have hk : k < r.length := by simpa using h
    have hne : ¬ x = r[k] := fun e => hn'.1 (e ▸ List.getElem_mem hk)
    simp only [List.getElem_cons_succ, posIn, if_neg hne]
    rw [posIn_at r hn'.2 k hk]
section
variable {w : World} {p : Nat} {S : PS} {g : SG}
/-- What passes stands ahead of what does not. -/
def Falls (S : PS) (P : Nat → Bool) : Prop := ∀ x y, kl (S.key x) (S.key y) = true → P y = true → P x = true
theorem PS.Inv.enter (h : S.Inv) {P : Nat → Bool} (hP : Falls S P) {l : Nat} (hl : l + 1 < 8) : ∃ k, k ≤ cnt P (S.lev l) ∧ place (S.lev (l + 1)) (cnt P (S.lev (l + 1))) = place (S.lev l) k := by
  by_cases h0 : cnt P (S.lev (l + 1)) = 0
  · exact ⟨0, Nat.zero_le _, by simp [place, h0]⟩
  · obtain ⟨h1, h2⟩ := cnt_lt P (S.lev (l + 1)) (cnt P (S.lev (l + 1)) - 1) (by omega)
    have hm : (S.lev (l + 1))[cnt P (S.lev (l + 1)) - 1] ∈ S.lev l := by
      have := (h.mem (l + 1) hl _).1 (List.getElem_mem h1)
      exact (h.mem l (by omega) _).2 ⟨this.1, by omega⟩
    obtain ⟨i, hi, e⟩ := List.getElem_of_mem hm
    refine ⟨i + 1, cnt_ge P _ _ (by omega) (fun j hj hji => ?_), ?_⟩
    · by_cases e2 : j = i
      · subst e2
        rw [e]
        exact h2
      · have hs := List.pairwise_iff_getElem.1 (h.sorted l (by omega)) j i hj hi (by omega)
        rw [e] at hs
        exact hP _ _ hs h2
    · unfold place
      rw [if_neg h0, if_neg (by omega)]
      simp [List.getD, h1, hi, e]
theorem SkAt.posOf (h : SkAt w p S g) {l : Nat} (hl : l < 8) {k : Nat} (hk : k < (S.lev l).length) : posIn (g.n (S.lev l)[k]) ((S.lev l).map g.n) = k := by
  have hn : ((S.lev l).map g.n).Nodup := by
    unfold List.Nodup
    rw [List.pairwise_map]
    refine (h.inv.nodup hl).imp_of_mem fun {x y} hx hy hxy e => hxy (h.inj (h.inv.lt hl hx) (h.inv.lt hl hy) e)
  have := posIn_at _ hn k (by simpa using hk)
  simpa using this
end
end Go.Proofs.YtnggajconglfcaaDoor
