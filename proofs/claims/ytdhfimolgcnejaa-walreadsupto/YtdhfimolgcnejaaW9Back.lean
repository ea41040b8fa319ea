/- What is laid is read; what is cut is a beginning of it: plainly. -/
import Derived.Test.YtdhfimolgcnejaaW9Plain
namespace Go.Proofs.Ytdhfimolgcnejaa

theorem drop_add {α : Type} (A B : List α) (n : Nat) : (A ++ B).drop (A.length + n) = B.drop n := by
  rw [← List.drop_drop, List.drop_left]
theorem getD_add (A B : List UInt8) (n : Nat) : (A ++ B).getD (A.length + n) 0 = B.getD n 0 := by
  simp [List.getD, List.getElem?_append_right]
/-- What a piece that lies at a place is read as. -/
theorem pcAt_enc (A C : List UInt8) (k : UInt8) (body : List UInt8) (hk : 1 ≤ k.toNat ∧ k.toNat ≤ 4) (hroom : 7 + body.length ≤ leftN A.length) :
    pcAt (A ++ (pcEnc k body ++ C)) A.length = ⟨0, k, A.length + 7, body.length⟩ := by
  have hl := leftN_pos A.length
  have hb : body.length < 65536 := by omega
  have hs := maskN_lt (crc (k :: body))
  have e4 : (fxEnc (sumN k body) 4).length = 4 := fxEnc_length _ _
  have e2 : (fxEnc body.length 2).length = 2 := fxEnc_length _ _
  have ed : pcEnc k body ++ C = fxEnc (sumN k body) 4 ++ (fxEnc body.length 2 ++ (k :: (body ++ C))) := by simp [pcEnc]
  have hlen : (A ++ (pcEnc k body ++ C)).length - A.length = 7 + body.length + C.length := by
    simp only [List.length_append, pcEnc_length]
    omega
  have hcnt : cntN (A ++ (pcEnc k body ++ C)) A.length = body.length := by
    unfold cntN
    rw [drop_add, ed, List.drop_left' e4, List.take_left' e2, leNat_fxEnc]
    exact Nat.mod_eq_of_lt (by simpa using hb)
  have hsum : leNat (((A ++ (pcEnc k body ++ C)).drop A.length).take 4) = sumN k body := by
    rw [List.drop_left, ed, List.take_append_of_le_length (by omega), List.take_of_length_le (by omega), leNat_fxEnc]
    exact Nat.mod_eq_of_lt (by unfold sumN; simpa using hs)
  have hkind : (A ++ (pcEnc k body ++ C)).getD (A.length + 6) 0 = k := by
    rw [getD_add, ed, ← List.append_assoc, show (6 : Nat) = (fxEnc (sumN k body) 4 ++ fxEnc body.length 2).length + 0 by simp [e4, e2], getD_add]
    rfl
  have hbody : ((A ++ (pcEnc k body ++ C)).drop (A.length + 7)).take body.length = body := by
    rw [drop_add, ed, ← List.append_assoc, show (7 : Nat) = (fxEnc (sumN k body) 4 ++ fxEnc body.length 2).length + 1 by simp [e4, e2], drop_add]
    simp
  unfold pcAt
  rw [hlen, hcnt, hsum, hkind, hbody, if_neg (by omega), if_neg (by omega), if_neg (by omega), if_neg (by simp), if_neg (by omega)]
theorem body_enc (A C : List UInt8) (k : UInt8) (body : List UInt8) : Pc.body (A ++ (pcEnc k body ++ C)) ⟨0, k, A.length + 7, body.length⟩ = body := by
  have e4 : (fxEnc (sumN k body) 4).length = 4 := fxEnc_length _ _
  have e2 : (fxEnc body.length 2).length = 2 := fxEnc_length _ _
  have ed : pcEnc k body ++ C = fxEnc (sumN k body) 4 ++ (fxEnc body.length 2 ++ (k :: (body ++ C))) := by simp [pcEnc]
  unfold Pc.body
  simp only
  rw [drop_add, ed, ← List.append_assoc, show (7 : Nat) = (fxEnc (sumN k body) 4 ++ fxEnc body.length 2).length + 1 by simp [e4, e2], drop_add]
  simp
/-- A piece that is cut. -/
theorem pcAt_cut (A : List UInt8) (k : UInt8) (body : List UInt8) (n : Nat) (hn : n < 7 + body.length) (hroom : 7 + body.length ≤ leftN A.length) :
    (pcAt (A ++ (pcEnc k body).take n) A.length).fault = 1 := by
  have hl := leftN_pos A.length
  have hb : body.length < 65536 := by omega
  have e4 : (fxEnc (sumN k body) 4).length = 4 := fxEnc_length _ _
  have e2 : (fxEnc body.length 2).length = 2 := fxEnc_length _ _
  have hlen : (A ++ (pcEnc k body).take n).length - A.length = n := by
    simp only [List.length_append, List.length_take, pcEnc_length]
    omega
  unfold pcAt
  rw [hlen]
  by_cases h7 : n < 7
  · rw [if_pos h7]
  · rw [if_neg h7]
    have hcnt : cntN (A ++ (pcEnc k body).take n) A.length = body.length := by
      unfold cntN
      rw [drop_add, List.drop_take, List.take_take, Nat.min_eq_left (by omega)]
      rw [show pcEnc k body = fxEnc (sumN k body) 4 ++ (fxEnc body.length 2 ++ (k :: body)) from rfl, List.drop_left' e4, List.take_left' e2, leNat_fxEnc]
      exact Nat.mod_eq_of_lt (by simpa using hb)
    rw [hcnt, if_neg (by omega), if_pos hn]

theorem kindN_ok (f l : Bool) : 1 ≤ (kindN f l).toNat ∧ (kindN f l).toNat ≤ 4 := by cases f <;> cases l <;> decide
theorem kindN_first (f l : Bool) : decide ((kindN f l).toNat < 3) = f := by cases f <;> cases l <;> decide
theorem kindN_last (f l : Bool) : ((kindN f l).toNat = 1 ∨ (kindN f l).toNat = 4) ↔ l = true := by cases f <;> cases l <;> decide
theorem pad_left (p : Nat) : ¬ leftN (p + padN p) < 7 ∧ roomN p + 7 = leftN (p + padN p) := by
  unfold padN roomN leftN
  split <;> omega
theorem pad_pcs (b : List UInt8) (p : Nat) (h : p + padN p < b.length) : pcs b p = pcs b (p + padN p) := by
  unfold padN at h ⊢
  split
  · rename_i h7
    rw [if_pos h7] at h
    exact pcs_skip b p (by omega) h7
  · rfl

/-- A record that is laid is read, whole. -/
theorem read_put : ∀ (p : Nat) (first : Bool) (rest A C cur : List UInt8) (rs : List (List UInt8)) (size : Nat), A.length = p → ¬ (first = false ∧ rest = []) →
    rdL (A ++ (putP p first rest ++ C)) (pcs (A ++ (putP p first rest ++ C)) p) (!first) cur rs size =
      rdL (A ++ (putP p first rest ++ C)) (pcs (A ++ (putP p first rest ++ C)) (p + (putP p first rest).length)) false [] (rs ++ [cur ++ rest]) (p + (putP p first rest).length) := by
  intro p first rest
  refine put_ind (C := fun p first rest => ∀ (A C cur : List UInt8) (rs : List (List UInt8)) (size : Nat), A.length = p → ¬ (first = false ∧ rest = []) →
    rdL (A ++ (putP p first rest ++ C)) (pcs (A ++ (putP p first rest ++ C)) p) (!first) cur rs size =
      rdL (A ++ (putP p first rest ++ C)) (pcs (A ++ (putP p first rest ++ C)) (p + (putP p first rest).length)) false [] (rs ++ [cur ++ rest]) (p + (putP p first rest).length)) ?_ ?_ p first rest
  · intro p A C cur rs size _ h
    exact absurd ⟨rfl, rfl⟩ h
  · intro p first rest h ih A C cur rs size hA _
    have hn := next_le p rest
    have hpl := pad_left p
    have hstep := putP_step p first rest h
    obtain ⟨n, hnx⟩ : ∃ n, nextN p rest = n := ⟨_, rfl⟩
    obtain ⟨P, hP⟩ : ∃ P, padN p = P := ⟨_, rfl⟩
    rw [hnx] at hn
    rw [hnx, hP] at hstep ih
    rw [hP] at hpl
    obtain ⟨kd, hkd⟩ : ∃ kd, kindN first (decide (n = rest.length)) = kd := ⟨_, rfl⟩
    rw [hkd] at hstep
    have hk := kindN_ok first (decide (n = rest.length))
    have hk1 := kindN_first first (decide (n = rest.length))
    have hk2 := kindN_last first (decide (n = rest.length))
    rw [hkd] at hk hk1 hk2
    obtain ⟨T, hT⟩ : ∃ T, putP (p + P + 7 + n) false (rest.drop n) = T := ⟨_, rfl⟩
    rw [hT] at hstep
    have htl : (rest.take n).length = n := by simp; omega
    -- the log, with the padding as part of what lies ahead
    obtain ⟨A1, hA1⟩ : ∃ A1, A ++ List.replicate P 0 = A1 := ⟨_, rfl⟩
    have hA1l : A1.length = p + P := by rw [← hA1]; simp [hA]
    have hlog : A ++ (putP p first rest ++ C) = A1 ++ (pcEnc kd (rest.take n) ++ (T ++ C)) := by rw [hstep, ← hA1]; simp
    have hlen : (putP p first rest).length = P + (7 + n) + T.length := by
      rw [hstep]
      simp only [List.length_append, List.length_replicate, pcEnc_length, htl]
      omega
    rw [hlog, hlen]
    have hat : pcAt (A1 ++ (pcEnc kd (rest.take n) ++ (T ++ C))) (p + P) = ⟨0, kd, p + P + 7, n⟩ := by
      have := pcAt_enc A1 (T ++ C) kd (rest.take n) hk (by rw [htl, hA1l]; omega)
      rw [hA1l, htl] at this
      exact this
    have hbd : Pc.body (A1 ++ (pcEnc kd (rest.take n) ++ (T ++ C))) ⟨0, kd, p + P + 7, n⟩ = rest.take n := by
      have := body_enc A1 (T ++ C) kd (rest.take n)
      rw [hA1l, htl] at this
      exact this
    have hlt : p + P < (A1 ++ (pcEnc kd (rest.take n) ++ (T ++ C))).length := by
      simp only [List.length_append, pcEnc_length, hA1l]
      omega
    have hpp := pad_pcs (A1 ++ (pcEnc kd (rest.take n) ++ (T ++ C))) p (by rw [hP]; exact hlt)
    rw [hP] at hpp
    rw [hpp, pcs_good _ _ hlt hpl.1 (by rw [hat]), hat]
    have hbeh : Pc.behind ⟨0, kd, p + P + 7, n⟩ = p + P + 7 + n := rfl
    rw [hbeh, rdL, if_neg (by simp), if_neg (by simp only; rw [hk1]; cases first <;> simp), hbd]
    by_cases hlast : n = rest.length
    · have hT0 : T = [] := by rw [← hT, hlast, List.drop_length, putP_done]
      subst hT0
      rw [if_pos (by simp only; rw [hk2]; simpa using hlast), hbeh]
      rw [show rest.take n = rest by rw [hlast, List.take_length]]
      simp only [List.length_nil, Nat.add_zero]
      rw [show p + (P + (7 + n)) = p + P + 7 + n by omega]
    · rw [if_neg (by simp only; rw [hk2]; simpa using hlast)]
      have hne : ¬ (false = false ∧ rest.drop n = []) := by
        rintro ⟨_, e⟩
        have := congrArg List.length e
        simp at this
        omega
      have hi := ih (A1 ++ pcEnc kd (rest.take n)) C (cur ++ rest.take n) rs size (by simp only [List.length_append, pcEnc_length, hA1l, htl]; omega) hne
      rw [hT] at hi
      simp only [Bool.not_false, List.append_assoc] at hi
      rw [hi]
      simp only [List.take_append_drop]
      rw [show p + P + 7 + n + T.length = p + (P + (7 + n) + T.length) by omega]
end Go.Proofs.Ytdhfimolgcnejaa
