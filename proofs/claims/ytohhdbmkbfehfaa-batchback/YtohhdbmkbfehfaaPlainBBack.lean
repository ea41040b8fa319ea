/- Bytes that are cut, or have more behind, are no batch's. -/
import Derived.Test.YtohhdbmkbfehfaaPlainBDec
namespace Go.Proofs.Ytohhdbmkbfehfaa
theorem bEnc_more {q r : Nat} {l m : List Opn} {more : List UInt8} (h1 : bchk q l = 0) (h2 : bchk r m = 0) (h : bEnc r m = bEnc q l ++ more) : more = [] := by
  obtain ⟨a1, a2, a3, a4⟩ := bEnc_parts h1
  obtain ⟨c1, c2, c3, c4⟩ := bEnc_parts h2
  obtain ⟨hn, hq, _, hall⟩ := bchk_zero h1
  obtain ⟨hm, hr, _, hal2⟩ := bchk_zero h2
  have e12 : (bEnc r m).drop 12 = opsEnc l ++ more := by rw [h, List.drop_append_of_le_length a4, a3]
  rw [c3] at e12
  have e8 : ((bEnc r m).drop 8).take 4 = fxEnc l.length 4 := by
    rw [h, List.drop_append_of_le_length (by omega), List.take_append_of_le_length (by simp; omega), a2]
  rw [c2] at e8
  have hlen : m.length = l.length := by
    have := congrArg leNat e8
    rw [leNat_fxEnc, leNat_fxEnc, Nat.mod_eq_of_lt (by omega), Nat.mod_eq_of_lt (by omega)] at this
    exact this
  have p1 := opsRead_enc l hall more
  have p2 := opsRead_enc m hal2 []
  rw [List.append_nil, hlen, e12, p1] at p2
  have hlm : l = m := Option.some.inj p2
  subst hlm
  have hl := congrArg List.length e12
  rw [List.length_append] at hl
  exact List.eq_nil_of_length_eq_zero (by omega)
theorem bDec_more {q : Nat} {l : List Opn} (h : bchk q l = 0) (more : List UInt8) (hm : more ≠ []) : (bDec (bEnc q l ++ more)).2.2 = 32 := by
  rcases bDec_cases (bEnc q l ++ more) with ⟨r, m, h1, h2, _⟩ | ⟨_, h2⟩
  · exact absurd (bEnc_more h h1 h2) hm
  · rw [h2]
theorem bDec_cut {q : Nat} {l : List Opn} (h : bchk q l = 0) (k : Nat) (hk : k < (bEnc q l).length) : (bDec ((bEnc q l).take k)).2.2 = 32 := by
  rcases bDec_cases ((bEnc q l).take k) with ⟨r, m, h1, h2, _⟩ | ⟨_, h2⟩
  · have e : bEnc q l = bEnc r m ++ (bEnc q l).drop k := by rw [h2, List.take_append_drop]
    have := bEnc_more h1 h e
    have hl := congrArg List.length this
    simp at hl
    omega
  · rw [h2]
theorem bEnc_small {q : Nat} {l : List Opn} (h : bchk q l = 0) : (bEnc q l).length ≤ 80000 ∧ 12 ≤ (bEnc q l).length := by
  obtain ⟨hn, hq, _, hall⟩ := bchk_zero h
  have := opsEnc_len l hall l.length (Nat.le_refl _)
  rw [List.take_length] at this
  rw [bEnc_yes h, List.length_append, List.length_append, fxEnc_length, fxEnc_length]
  omega
end Go.Proofs.Ytohhdbmkbfehfaa
