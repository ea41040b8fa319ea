/- Merge's heads, plainly: what stands next to a gap; what is left when one is taken. -/
import Derived.Test.YtfijibengmgegaaM16MgU
import Derived.Test.YtfijibengmgegaaM16MgC
namespace Go.Proofs.Ytfijibengmgegaa
open Go.RowKit
set_option linter.unusedVariables false
set_option linter.unusedSimpArgs false
section
variable {L : List (List KV)} {v : Nat → Nat} {k : IK} {m : Nat} {p q x : PlL} {ps : List PlL}
theorem rowL_len (L : List (List KV)) (i : Nat) : (rowL L i).length = lenL L i := rfl
theorem gapV_le (L : List (List KV)) (k : IK) (m i : Nat) : gapV L k m i ≤ lenL L i := List.takeWhile_prefix _ |>.length_le
theorem gap_in {i j : Nat} (h : j < gapV L k m i) : ¬ gapP k m i (entL L (i, j)) := by
  have hl := gapV_le L k m i
  have hj : j < (rowL L i).length := by rw [rowL_len]; omega
  have h1 : ((rowL L i).takeWhile fun e => !decide (gapP k m i e))[j] = (rowL L i)[j] := by
    have := List.takeWhile_prefix (l := rowL L i) fun e => !decide (gapP k m i e)
    exact this.getElem h
  have h2 : (!decide (gapP k m i ((rowL L i).takeWhile fun e => !decide (gapP k m i e))[j])) = true := by
    have := List.all_takeWhile (p := fun e => !decide (gapP k m i e)) (l := rowL L i)
    rw [List.all_eq_true] at this
    exact this _ (List.getElem_mem h)
  rw [h1, rowL_at hj] at h2
  simpa using h2
theorem gap_out (hL : RiseL L) {i j : Nat} (h : gapV L k m i ≤ j) (hj : j < lenL L i) : gapP k m i (entL L (i, j)) := by
  have hv : gapV L k m i < (rowL L i).length := by rw [rowL_len]; omega
  have h0 : gapP k m i (rowL L i)[gapV L k m i] := by
    have h1 : (rowL L i).drop (gapV L k m i) = (rowL L i).dropWhile fun e => !decide (gapP k m i e) := by
      have := List.takeWhile_append_dropWhile (p := fun e => !decide (gapP k m i e)) (l := rowL L i)
      conv => lhs; rw [← this]
      unfold gapV
      rw [List.drop_left]
    have h2 : ((rowL L i).dropWhile fun e => !decide (gapP k m i e)).head? = some (rowL L i)[gapV L k m i] := by
      rw [← h1, List.head?_drop, List.getElem?_eq_getElem hv]
    have h3 := List.head?_dropWhile_not (fun e => !decide (gapP k m i e)) (rowL L i)
    rw [h2] at h3
    simpa using h3
  rw [rowL_at hv] at h0
  by_cases e : gapV L k m i = j
  · rw [← e]; exact h0
  · exact gapP_mono h0 (rise_ahead hL (by omega) hj)
theorem gap_cut (hL : RiseL L) (k : IK) (m : Nat) : CutL L (gapV L k m) := ⟨gapV_le L k m, fun i j i' j' h1 h2 h3 => by
  have a := gap_in h1
  have b := gap_out hL h2 h3
  unfold gapP at a b
  have c1 : k.cmp (entL L (i', j')).1 = -(entL L (i', j')).1.cmp k := IK.cmp_turn _ _
  by_cases e1 : (entL L (i, j)).1.cmp k < 0
  · exact .inl (cmp_lt_le e1 (by rw [c1]; rcases b with b | ⟨b, _⟩ <;> omega))
  · have e2 : (entL L (i, j)).1.cmp k = 0 := by omega
    have e3 : i < m := by omega
    rcases b with b | ⟨b, hm⟩
    · exact .inl (cmp_le_lt (Int.le_of_eq e2) (by rw [c1]; omega))
    · refine .inr ⟨?_, show i < i' by omega⟩
      have z1 : (entL L (i, j)).1.cmp (entL L (i', j')).1 ≤ 0 := cmp_le_trans (Int.le_of_eq e2) (by rw [c1]; omega)
      have c2 : k.cmp (entL L (i, j)).1 = -(entL L (i, j)).1.cmp k := IK.cmp_turn _ _
      have z2 : (entL L (i', j')).1.cmp (entL L (i, j)).1 ≤ 0 := cmp_le_trans (Int.le_of_eq b) (by rw [c2]; omega)
      have c3 : (entL L (i', j')).1.cmp (entL L (i, j)).1 = -(entL L (i, j)).1.cmp (entL L (i', j')).1 := IK.cmp_turn _ _
      show cmpL L (i, j) (i', j') = 0
      unfold cmpL
      omega⟩
theorem sum_at (hL : RiseL L) (h : CutL L v) {n : Nat} (hn : (allP L)[n]? = some p) : n < sumV v L.length ↔ p.2 < v p.1 := by
  have hs := cut_split hL h
  have hl := cut_len (L := L) h.le
  constructor
  · intro hlt
    rw [hs, List.getElem?_append_left (by omega)] at hn
    have := (List.mem_filter.1 (List.mem_of_getElem? hn)).2
    simpa [inV] using this
  · intro hlt
    apply Classical.byContradiction
    intro hge
    rw [hs, List.getElem?_append_right (by omega)] at hn
    have := (List.mem_filter.1 (List.mem_of_getElem? hn)).2
    simp [inV] at this
    omega
theorem sum_all (h : CutL L v) : sumV v L.length ≤ (allP L).length := by
  rw [all_len]
  exact sum_le _ fun i _ => h.le i
theorem sum_is (hL : RiseL L) (h : CutL L v) {n : Nat} (hn : n ≤ (allP L).length) (h1 : ∀ j p, j < n → (allP L)[j]? = some p → p.2 < v p.1) (h2 : ∀ p, (allP L)[n]? = some p → ¬ p.2 < v p.1) : sumV v L.length = n := by
  have ha := sum_all h
  apply Nat.le_antisymm
  · apply Classical.byContradiction
    intro hlt
    have hn' : n < (allP L).length := by omega
    exact h2 _ (List.getElem?_eq_getElem hn') ((sum_at hL h (List.getElem?_eq_getElem hn')).1 (by omega))
  · apply Classical.byContradiction
    intro hlt
    have hn' : sumV v L.length < (allP L).length := by omega
    exact absurd ((sum_at hL h (List.getElem?_eq_getElem hn')).2 (h1 _ _ (by omega) (List.getElem?_eq_getElem hn'))) (Nat.lt_irrefl _)
theorem allP_lt (hL : RiseL L) {i j : Nat} (hi : (allP L)[i]? = some p) (hj : (allP L)[j]? = some q) (hij : i < j) : aheadL L p q := by
  obtain ⟨a, rfl⟩ := List.getElem?_eq_some_iff.1 hi
  obtain ⟨b, rfl⟩ := List.getElem?_eq_some_iff.1 hj
  exact List.pairwise_iff_getElem.1 (all_rises hL) i j a b hij
theorem gap_ent {i j : Nat} (hL : RiseL L) (hj : j < lenL L i) : j < gapV L k m i ↔ ¬ gapP k m i (entL L (i, j)) := ⟨gap_in, fun h => Nat.lt_of_not_le fun h' => h (gap_out hL h' hj)⟩
/-- A gap behind a place, and ahead of it. -/
theorem gap_next (hL : RiseL L) {i : Nat} (hi : (allP L)[i]? = some p) : sumV (gapV L (entL L p).1 (p.1 + 1)) L.length = i + 1 := by
  have hlt : i < (allP L).length := (List.getElem?_eq_some_iff.1 hi).1
  refine sum_is hL (gap_cut hL _ _) (by omega) (fun j q hj hq => ?_) fun q hq hin => ?_
  · have hv : validL L q := mem_allP.1 (List.mem_of_getElem? hq)
    refine (gap_ent hL hv).2 fun hg => ?_
    have hpq : q = p ∨ aheadL L q p := by
      by_cases e : j = i
      · subst e; rw [hq] at hi; exact .inl (Option.some.inj hi)
      · exact .inr (allP_lt hL hq hi (by omega))
    rcases hpq with e | e
    · subst e
      have := IK.cmp_self (entL L q).1
      rcases hg with hg | ⟨_, hg⟩
      · exact absurd hg (by show ¬ 0 < (entL L q).1.cmp (entL L q).1; omega)
      · omega
    · have e1 : (entL L (q.1, q.2)).1.cmp (entL L p).1 = cmpL L q p := rfl
      rcases hg with hg | ⟨hg, hg2⟩ <;> rcases e with e | ⟨e, e2⟩ <;> omega
  · have hv : validL L q := mem_allP.1 (List.mem_of_getElem? hq)
    have hno := (gap_ent hL hv).1 hin
    have e := allP_lt hL hi hq (by omega)
    have e1 : (entL L (q.1, q.2)).1.cmp (entL L p).1 = -cmpL L p q := IK.cmp_turn _ _
    refine hno ?_
    rcases e with e | ⟨e, e2⟩
    · exact .inl (by omega)
    · exact .inr ⟨by omega, e2⟩
theorem gap_prev (hL : RiseL L) {i : Nat} (hi : (allP L)[i]? = some p) : sumV (gapV L (entL L p).1 p.1) L.length = i := by
  have hlt : i < (allP L).length := (List.getElem?_eq_some_iff.1 hi).1
  refine sum_is hL (gap_cut hL _ _) (by omega) (fun j q hj hq => ?_) fun q hq hin => ?_
  · have hv : validL L q := mem_allP.1 (List.mem_of_getElem? hq)
    refine (gap_ent hL hv).2 fun hg => ?_
    have e := allP_lt hL hq hi hj
    have e1 : (entL L (q.1, q.2)).1.cmp (entL L p).1 = cmpL L q p := rfl
    rcases hg with hg | ⟨hg, hg2⟩ <;> rcases e with e | ⟨e, e2⟩ <;> omega
  · rw [hq] at hi
    obtain rfl := Option.some.inj hi
    have hv : validL L q := mem_allP.1 (List.mem_of_getElem? hq)
    refine (gap_ent hL hv).1 hin (.inr ⟨IK.cmp_self _, Nat.le_refl _⟩)
theorem gap_seek (hL : RiseL L) (k : IK) : sumV (gapV L k 0) L.length = seekI (allL L) k := by
  have hc := gap_cut hL k 0
  refine (seekI_at (by unfold allL; rw [List.length_map]; exact sum_all hc) (fun j hj hlt => ?_) fun hi => ?_).symm
  · have hj' : j < (allP L).length := by simpa [allL] using hj
    have hq : (allP L)[j]? = some (allP L)[j] := List.getElem?_eq_getElem hj'
    have h1 := (sum_at hL hc hq).1 hlt
    have h2 := gap_in h1
    rw [show (allL L)[j] = entL L (allP L)[j] by simp [allL]]
    unfold gapP at h2
    have h3 : (entL L (allP L)[j]) = entL L ((allP L)[j].1, (allP L)[j].2) := rfl
    rw [h3]
    omega
  · have hj' : sumV (gapV L k 0) L.length < (allP L).length := by simpa [allL] using hi
    have hq : (allP L)[sumV (gapV L k 0) L.length]? = some (allP L)[sumV (gapV L k 0) L.length] := List.getElem?_eq_getElem hj'
    have hv : validL L (allP L)[sumV (gapV L k 0) L.length] := mem_allP.1 (List.getElem_mem hj')
    have h1 : ¬ (allP L)[sumV (gapV L k 0) L.length].2 < gapV L k 0 (allP L)[sumV (gapV L k 0) L.length].1 := fun h => absurd ((sum_at hL hc hq).2 h) (Nat.lt_irrefl _)
    have h2 := gap_out hL (Nat.le_of_not_lt h1) hv
    rw [show (allL L)[sumV (gapV L k 0) L.length] = entL L (allP L)[sumV (gapV L k 0) L.length] by simp [allL]]
    unfold gapP at h2
    have h3 : (entL L (allP L)[sumV (gapV L k 0) L.length]) = entL L ((allP L)[sumV (gapV L k 0) L.length].1, (allP L)[sumV (gapV L k 0) L.length].2) := rfl
    rw [h3]
    omega
end
end Go.Proofs.Ytfijibengmgegaa
