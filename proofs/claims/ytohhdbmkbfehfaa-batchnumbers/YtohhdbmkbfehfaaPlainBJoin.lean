/- Batches one behind the other, and their numbers. -/
import Derived.Test.YtohhdbmkbfehfaaPlainBBack
namespace Go.Proofs.Ytohhdbmkbfehfaa
theorem opsChk_append : ∀ l m : List Opn, opsChk l = 0 → opsChk (l ++ m) = opsChk m
  | [], _, _ => rfl
  | o :: r, m, h => by
    unfold opsChk at h
    by_cases ho : opChk o = 0
    · rw [if_pos ho] at h
      rw [List.cons_append, opsChk, if_pos ho, opsChk_append r m h]
    · rw [if_neg ho] at h
      exact absurd h ho
/-- Two lists that may be: both behind one another are too many, or their numbers too great, or may be. -/
theorem bchk_join {q : Nat} {l m : List Opn} (h1 : bchk q l = 0) (h2 : bchk q m = 0) : bchk q (l ++ m) = 0 ∨ bchk q (l ++ m) = 30 ∨ bchk q (l ++ m) = 22 := by
  obtain ⟨_, _, _, a⟩ := bchk_zero h1
  obtain ⟨_, _, _, b⟩ := bchk_zero h2
  have e := opsChk_append l m a
  unfold bchk
  split
  · exact .inr (.inl rfl)
  · split
    · exact .inr (.inr rfl)
    · rw [e, b]
      exact .inl rfl
theorem bEnc_join {q : Nat} {l m : List Opn} (h1 : bchk q l = 0) (h2 : bchk q m = 0) (h3 : bchk q (l ++ m) = 0) :
    (bEnc q (l ++ m)).take 8 = (bEnc q l).take 8 ∧ (bEnc q (l ++ m)).drop 12 = (bEnc q l).drop 12 ++ (bEnc q m).drop 12 ∧ ((bEnc q (l ++ m)).getD 8 0).toNat = l.length + m.length := by
  obtain ⟨a1, a2, a3, a4⟩ := bEnc_parts h1
  obtain ⟨b1, b2, b3, b4⟩ := bEnc_parts h2
  obtain ⟨c1, c2, c3, c4⟩ := bEnc_parts h3
  obtain ⟨hn, _, _, _⟩ := bchk_zero h3
  refine ⟨by rw [c1, a1], by rw [c3, a3, b3, opsEnc_append], ?_⟩
  have e : (bEnc q (l ++ m)).getD 8 0 = (((bEnc q (l ++ m)).drop 8).take 4).getD 0 0 := by simp [List.getD]
  rw [e, c2, List.length_append]
  rw [List.length_append] at hn
  have : ∀ n, (fxEnc n 4).getD 0 0 = loByte n := by
    intro n
    simp [fxEnc, List.getD]
  rw [this, loByte_toNat]
  omega
theorem bchk_nought {l : List Opn} {q : Nat} (h : ¬ bchk 0 l = 0) : ¬ bchk q l = 0 := by
  intro hq
  obtain ⟨hn, _, _, hall⟩ := bchk_zero hq
  apply h
  unfold bchk
  rw [if_neg (by omega), if_neg (by omega), hall]
theorem bchk_number {l : List Opn} {q : Nat} (h : bchk 0 l = 0) : bchk q l = if q ≤ 72057594037927935 - (l.length - 1) then 0 else 22 := by
  obtain ⟨hn, _, _, hall⟩ := bchk_zero h
  unfold bchk
  rw [if_neg (by omega), hall]
  by_cases hg : q ≤ 72057594037927935 - (l.length - 1)
  · rw [if_pos hg, if_neg (by omega)]
  · rw [if_neg hg, if_pos (by omega)]
theorem bEnc_numbers {q r : Nat} {l : List Opn} (h1 : bchk q l = 0) (h2 : bchk r l = 0) : (bEnc q l).drop 8 = (bEnc r l).drop 8 ∧ ((bEnc q l).take 8 = (bEnc r l).take 8 ↔ q = r) := by
  obtain ⟨a1, _, _, _⟩ := bEnc_parts h1
  obtain ⟨b1, _, _, _⟩ := bEnc_parts h2
  obtain ⟨_, hq, _, _⟩ := bchk_zero h1
  obtain ⟨_, hr, _, _⟩ := bchk_zero h2
  refine ⟨?_, ?_⟩
  · rw [bEnc_yes h1, bEnc_yes h2, List.drop_left' (fxEnc_length q 8), List.drop_left' (fxEnc_length r 8)]
  · rw [a1, b1]
    constructor
    · intro e
      have := congrArg leNat e
      rw [leNat_fxEnc, leNat_fxEnc, Nat.mod_eq_of_lt (by omega), Nat.mod_eq_of_lt (by omega)] at this
      exact this
    · rintro rfl; rfl
end Go.Proofs.Ytohhdbmkbfehfaa
