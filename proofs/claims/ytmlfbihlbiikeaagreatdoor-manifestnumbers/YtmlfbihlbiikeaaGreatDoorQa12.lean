/- What is laid is read; what is cut is a beginning of it: plainly. -/
import Derived.Test.YtmlfbihlbiikeaaGreatDoorQa08
import Derived.Test.YtmlfbihlbiikeaaGreatDoorQa07
import Derived.WalkKit
namespace Go.Proofs.YtmlfbihlbiikeaaGreatDoor

theorem drop_add {α : Type} (A B : List α) (n : Nat) : (A ++ B).drop (A.length + n) = B.drop n := by
  rw [← List.drop_drop, List.drop_left]
theorem getD_add (A B : List UInt8) (n : Nat) : (A ++ B).getD (A.length + n) 0 = B.getD n 0 := by
  simp [List.getD, List.getElem?_append_right]
theorem pcAt_enc (A C : List UInt8) (k : UInt8) (body : List UInt8) (hk : 1 ≤ k.toNat ∧ k.toNat ≤ 4) (hroom : 7 + body.length ≤ leftN A.length) :
    pcAt (A ++ (pcEnc k body ++ C)) A.length = ⟨0, k, A.length + 7, body.length⟩ := by
  have hl := leftN_pos A.length
  have hb : body.length < 65536 := by omega
  have hs := maskN_lt (crc (k :: body))
  have e4 : (fxEnc (sumN k body) 4).length = 4 := fxEnc_length _ _
  have e2 : (fxEnc body.length 2).length = 2 := fxEnc_length _ _
  have ed : pcEnc k body ++ C = fxEnc (sumN k body) 4 ++ (fxEnc body.length 2 ++ (k :: (body ++ C))) := by simp [pcEnc]
  have hlen : (A ++ (pcEnc k body ++ C)).length - A.length = 7 + body.length + C.length := by
    simp only [List.length_append, pcEnc_length]
    omega
  have hcnt : cntN (A ++ (pcEnc k body ++ C)) A.length = body.length := by
    unfold cntN
    rw [drop_add, ed, List.drop_left' e4, List.take_left' e2, leNat_fxEnc]
    exact Nat.mod_eq_of_lt (by simpa using hb)
  have hsum : leNat (((A ++ (pcEnc k body ++ C)).drop A.length).take 4) = sumN k body := by
    rw [List.drop_left, ed, List.take_append_of_le_length (by omega), List.take_of_length_le (by omega), leNat_fxEnc]
    exact Nat.mod_eq_of_lt (by unfold sumN; simpa using hs)
  have hkind : (A ++ (pcEnc k body ++ C)).getD (A.length + 6) 0 = k := by
    rw [getD_add, ed, ← List.append_assoc, show (6 : Nat) = (fxEnc (sumN k body) 4 ++ fxEnc body.length 2).length + 0 by simp [e4, e2], getD_add]
    rfl
  have hbody : ((A ++ (pcEnc k body ++ C)).drop (A.length + 7)).take body.length = body := by
    rw [drop_add, ed, ← List.append_assoc, show (7 : Nat) = (fxEnc (sumN k body) 4 ++ fxEnc body.length 2).length + 1 by simp [e4, e2], drop_add]
    simp
  unfold pcAt
  rw [hlen, hcnt, hsum, hkind, hbody, if_neg (by omega), if_neg (by omega), if_neg (by omega), if_neg (by simp), if_neg (by omega)]
theorem body_enc (A C : List UInt8) (k : UInt8) (body : List UInt8) : Pc.body (A ++ (pcEnc k body ++ C)) ⟨0, k, A.length + 7, body.length⟩ = body := by
  have e4 : (fxEnc (sumN k body) 4).length = 4 := fxEnc_length _ _
  have e2 : (fxEnc body.length 2).length = 2 := fxEnc_length _ _
  have ed : pcEnc k body ++ C = fxEnc (sumN k body) 4 ++ (fxEnc body.length 2 ++ (k :: (body ++ C))) := by simp [pcEnc]
  unfold Pc.body
  simp only
  rw [drop_add, ed, ← List.append_assoc, show (7 : Nat) = (fxEnc (sumN k body) 4 ++ fxEnc body.length 2).length + 1 by simp [e4, e2], drop_add]
  simp
theorem pcAt_cut (A : List UInt8) (k : UInt8) (body : List UInt8) (n : Nat) (hn : n < 7 + body.length) (hroom : 7 + body.length ≤ leftN A.length) :
    (pcAt (A ++ (pcEnc k body).take n) A.length).fault = 1 := by
  have hl := leftN_pos A.length
  have hb : body.length < 65536 := by omega
  have e4 : (fxEnc (sumN k body) 4).length = 4 := fxEnc_length _ _
  have e2 : (fxEnc body.length 2).length = 2 := fxEnc_length _ _
  have hlen : (A ++ (pcEnc k body).take n).length - A.length = n := by
    simp only [List.length_append, List.length_take, pcEnc_length]
    omega
  unfold pcAt
  rw [hlen]
  by_cases h7 : n < 7
  · rw [if_pos h7]
  · rw [if_neg h7]
    have hcnt : cntN (A ++ (pcEnc k body).take n) A.length = body.length := by
      unfold cntN
      rw [drop_add, List.drop_take, List.take_take, Nat.min_eq_left (by omega)]
      rw [show pcEnc k body = fxEnc (sumN k body) 4 ++ (fxEnc body.length 2 ++ (k :: body)) from rfl, List.drop_left' e4, List.take_left' e2, leNat_fxEnc]
      exact Nat.mod_eq_of_lt (by simpa using hb)
    rw [hcnt, if_neg (by omega), if_pos hn]

theorem kindN_ok (f l : Bool) : 1 ≤ (kindN f l).toNat ∧ (kindN f l).toNat ≤ 4 := by cases f <;> cases l <;> decide
theorem kindN_first (f l : Bool) : decide ((kindN f l).toNat < 3) = f := by cases f <;> cases l <;> decide
theorem kindN_last (f l : Bool) : ((kindN f l).toNat = 1 ∨ (kindN f l).toNat = 4) ↔ l = true := by cases f <;> cases l <;> decide
theorem pad_left (p : Nat) : ¬ leftN (p + padN p) < 7 ∧ roomN p + 7 = leftN (p + padN p) := by
  unfold padN roomN leftN
  split <;> omega
theorem pad_pcs (b : List UInt8) (p : Nat) (h : p + padN p < b.length) : pcs b p = pcs b (p + padN p) := by
  unfold padN at h ⊢
  split
  · rename_i h7
    rw [if_pos h7] at h
    exact pcs_skip b p (by omega) h7
  · rfl

theorem read_put : ∀ (p : Nat) (first : Bool) (rest A C cur : List UInt8) (rs : List (List UInt8)) (size : Nat), A.length = p → ¬ (first = false ∧ rest = []) →
    rdL (A ++ (putP p first rest ++ C)) (pcs (A ++ (putP p first rest ++ C)) p) (!first) cur rs size =
      rdL (A ++ (putP p first rest ++ C)) (pcs (A ++ (putP p first rest ++ C)) (p + (putP p first rest).length)) false [] (rs ++ [cur ++ rest]) (p + (putP p first rest).length) := by
  intro p first rest
  refine put_ind (C := fun p first rest => ∀ (A C cur : List UInt8) (rs : List (List UInt8)) (size : Nat), A.length = p → ¬ (first = false ∧ rest = []) →
    rdL (A ++ (putP p first rest ++ C)) (pcs (A ++ (putP p first rest ++ C)) p) (!first) cur rs size =
      rdL (A ++ (putP p first rest ++ C)) (pcs (A ++ (putP p first rest ++ C)) (p + (putP p first rest).length)) false [] (rs ++ [cur ++ rest]) (p + (putP p first rest).length)) ?_ ?_ p first rest
  · intro p A C cur rs size _ h
    exact absurd ⟨rfl, rfl⟩ h
  · intro p first rest h ih A C cur rs size hA _
    have hn := next_le p rest
    have hpl := pad_left p
    have hstep := putP_step p first rest h
    obtain ⟨n, hnx⟩ : ∃ n, nextN p rest = n := ⟨_, rfl⟩
    obtain ⟨P, hP⟩ : ∃ P, padN p = P := ⟨_, rfl⟩
    rw [hnx] at hn
    rw [hnx, hP] at hstep ih
    rw [hP] at hpl
    obtain ⟨kd, hkd⟩ : ∃ kd, kindN first (decide (n = rest.length)) = kd := ⟨_, rfl⟩
    rw [hkd] at hstep
    have hk := kindN_ok first (decide (n = rest.length))
    have hk1 := kindN_first first (decide (n = rest.length))
    have hk2 := kindN_last first (decide (n = rest.length))
    rw [hkd] at hk hk1 hk2
    obtain ⟨T, hT⟩ : ∃ T, putP (p + P + 7 + n) false (rest.drop n) = T := ⟨_, rfl⟩
    rw [hT] at hstep
    have htl : (rest.take n).length = n := by simp; omega
    obtain ⟨A1, hA1⟩ : ∃ A1, A ++ List.replicate P 0 = A1 := ⟨_, rfl⟩
    have hA1l : A1.length = p + P := by rw [← hA1]; simp [hA]
    have hlog : A ++ (putP p first rest ++ C) = A1 ++ (pcEnc kd (rest.take n) ++ (T ++ C)) := by rw [hstep, ← hA1]; simp
    have hlen : (putP p first rest).length = P + (7 + n) + T.length := by
      rw [hstep]
      simp only [List.length_append, List.length_replicate, pcEnc_length, htl]
      omega
    rw [hlog, hlen]
    have hat : pcAt (A1 ++ (pcEnc kd (rest.take n) ++ (T ++ C))) (p + P) = ⟨0, kd, p + P + 7, n⟩ := by
      have := pcAt_enc A1 (T ++ C) kd (rest.take n) hk (by rw [htl, hA1l]; omega)
      rw [hA1l, htl] at this
      exact this
    have hbd : Pc.body (A1 ++ (pcEnc kd (rest.take n) ++ (T ++ C))) ⟨0, kd, p + P + 7, n⟩ = rest.take n := by
      have := body_enc A1 (T ++ C) kd (rest.take n)
      rw [hA1l, htl] at this
      exact this
    have hlt : p + P < (A1 ++ (pcEnc kd (rest.take n) ++ (T ++ C))).length := by
      simp only [List.length_append, pcEnc_length, hA1l]
      omega
    have hpp := pad_pcs (A1 ++ (pcEnc kd (rest.take n) ++ (T ++ C))) p (by rw [hP]; exact hlt)
    rw [hP] at hpp
    rw [hpp, pcs_good _ _ hlt hpl.1 (by rw [hat]), hat]
    have hbeh : Pc.behind ⟨0, kd, p + P + 7, n⟩ = p + P + 7 + n := rfl
    rw [hbeh, rdL, if_neg (by simp), if_neg (by simp only; rw [hk1]; cases first <;> simp), hbd]
    by_cases hlast : n = rest.length
    · have hT0 : T = [] := by rw [← hT, hlast, List.drop_length, putP_done]
      subst hT0
      rw [if_pos (by simp only; rw [hk2]; simpa using hlast), hbeh]
      rw [show rest.take n = rest by rw [hlast, List.take_length]]
      simp only [List.length_nil, Nat.add_zero]
      rw [show p + (P + (7 + n)) = p + P + 7 + n by omega]
    · rw [if_neg (by simp only; rw [hk2]; simpa using hlast)]
      have hne : ¬ (false = false ∧ rest.drop n = []) := by
        rintro ⟨_, e⟩
        have := congrArg List.length e
        simp at this
        omega
      have hi := ih (A1 ++ pcEnc kd (rest.take n)) C (cur ++ rest.take n) rs size (by simp only [List.length_append, pcEnc_length, hA1l, htl]; omega) hne
      rw [hT] at hi
      simp only [Bool.not_false, List.append_assoc] at hi
      rw [hi]
      simp only [List.take_append_drop]
      rw [show p + P + 7 + n + T.length = p + (P + (7 + n) + T.length) by omega]
end Go.Proofs.YtmlfbihlbiikeaaGreatDoor
namespace Go.Proofs.YtmlfbihlbiikeaaGreatDoor

theorem read_cut : ∀ (p : Nat) (first : Bool) (rest A cur : List UInt8) (rs : List (List UInt8)) (size m : Nat), A.length = p → m < (putP p first rest).length →
    ∃ e, e ≤ 1 ∧ rdL (A ++ (putP p first rest).take m) (pcs (A ++ (putP p first rest).take m) p) (!first) cur rs size = (rs, size, e) := by
  intro p first rest
  refine put_ind (C := fun p first rest => ∀ (A cur : List UInt8) (rs : List (List UInt8)) (size m : Nat), A.length = p → m < (putP p first rest).length →
    ∃ e, e ≤ 1 ∧ rdL (A ++ (putP p first rest).take m) (pcs (A ++ (putP p first rest).take m) p) (!first) cur rs size = (rs, size, e)) ?_ ?_ p first rest
  · intro p A cur rs size m _ h
    rw [putP_done] at h
    exact absurd h (Nat.not_lt_zero _)
  · intro p first rest h ih A cur rs size m hA hm
    have hn := next_le p rest
    have hpl := pad_left p
    have hstep := putP_step p first rest h
    have hskip := pcs_skip
    obtain ⟨n, hnx⟩ : ∃ n, nextN p rest = n := ⟨_, rfl⟩
    obtain ⟨P, hP⟩ : ∃ P, padN p = P := ⟨_, rfl⟩
    rw [hnx] at hn
    rw [hnx, hP] at hstep ih
    rw [hP] at hpl
    obtain ⟨kd, hkd⟩ : ∃ kd, kindN first (decide (n = rest.length)) = kd := ⟨_, rfl⟩
    rw [hkd] at hstep
    have hk := kindN_ok first (decide (n = rest.length))
    have hk1 := kindN_first first (decide (n = rest.length))
    have hk2 := kindN_last first (decide (n = rest.length))
    rw [hkd] at hk hk1 hk2
    obtain ⟨T, hT⟩ : ∃ T, putP (p + P + 7 + n) false (rest.drop n) = T := ⟨_, rfl⟩
    rw [hT] at hstep
    have htl : (rest.take n).length = n := by simp; omega
    have hpe : (pcEnc kd (rest.take n)).length = 7 + n := by rw [pcEnc_length, htl]
    have hlen : (putP p first rest).length = P + (7 + n) + T.length := by
      rw [hstep]
      simp only [List.length_append, List.length_replicate, hpe]
      omega
    rw [hlen] at hm
    have hfin : ∀ bg : Bool, (if bg = true then 1 else 0) ≤ 1 := by intro bg; cases bg <;> simp
    by_cases hc1 : m ≤ P
    · have hb : (A ++ (putP p first rest).take m).length = p + m := by
        rw [List.length_append, List.length_take, hlen, hA]
        omega
      have hnil : pcs (A ++ (putP p first rest).take m) p = [] := by
        by_cases h0 : m = 0
        · exact pcs_end _ _ (by omega)
        · have h7 : leftN p < 7 ∧ leftN p = P := by
            unfold padN at hP
            split at hP
            · exact ⟨by assumption, hP⟩
            · omega
          rw [pcs_skip _ p (by omega) h7.1, h7.2]
          exact pcs_end _ _ (by omega)
      rw [hnil]
      exact ⟨_, hfin (!first), rfl⟩
    · obtain ⟨A1, hA1⟩ : ∃ A1, A ++ List.replicate P 0 = A1 := ⟨_, rfl⟩
      have hA1l : A1.length = p + P := by rw [← hA1]; simp [hA]
      have hlog : A ++ (putP p first rest).take m = A1 ++ (pcEnc kd (rest.take n) ++ T).take (m - P) := by
        rw [hstep, List.take_append, List.length_replicate, List.take_of_length_le (by simp; omega), ← hA1]
        simp
      rw [hlog]
      by_cases hc2 : m - P < 7 + n
      · rw [List.take_append_of_le_length (by omega)]
        have hf := pcAt_cut A1 kd (rest.take n) (m - P) (by omega) (by rw [htl, hA1l]; omega)
        rw [hA1l] at hf
        have hlt : p + P < (A1 ++ (pcEnc kd (rest.take n)).take (m - P)).length := by
          rw [List.length_append, List.length_take, hA1l, hpe]
          omega
        have hpp := pad_pcs (A1 ++ (pcEnc kd (rest.take n)).take (m - P)) p (by rw [hP]; exact hlt)
        rw [hP] at hpp
        rw [hpp, pcs_bad _ _ hlt hpl.1 (by rw [hf]; omega)]
        refine ⟨1, Nat.le_refl _, ?_⟩
        rw [rdL, if_pos (by rw [hf]; omega), hf]
      · have hne : n ≠ rest.length := by
          intro e
          have : T = [] := by rw [← hT, e, List.drop_length, putP_done]
          rw [this] at hm
          simp at hm
          omega
        rw [List.take_append, hpe, List.take_of_length_le (by omega)]
        obtain ⟨m', hm'⟩ : ∃ m', m - P - (7 + n) = m' := ⟨_, rfl⟩
        rw [hm']
        have hat : pcAt (A1 ++ (pcEnc kd (rest.take n) ++ T.take m')) (p + P) = ⟨0, kd, p + P + 7, n⟩ := by
          have := pcAt_enc A1 (T.take m') kd (rest.take n) hk (by rw [htl, hA1l]; omega)
          rw [hA1l, htl] at this
          exact this
        have hbd : Pc.body (A1 ++ (pcEnc kd (rest.take n) ++ T.take m')) ⟨0, kd, p + P + 7, n⟩ = rest.take n := by
          have := body_enc A1 (T.take m') kd (rest.take n)
          rw [hA1l, htl] at this
          exact this
        have hlt : p + P < (A1 ++ (pcEnc kd (rest.take n) ++ T.take m')).length := by
          simp only [List.length_append, hpe, hA1l]
          omega
        have hpp := pad_pcs (A1 ++ (pcEnc kd (rest.take n) ++ T.take m')) p (by rw [hP]; exact hlt)
        rw [hP] at hpp
        rw [hpp, pcs_good _ _ hlt hpl.1 (by rw [hat]), hat]
        have hbeh : Pc.behind ⟨0, kd, p + P + 7, n⟩ = p + P + 7 + n := rfl
        rw [hbeh, rdL, if_neg (by simp), if_neg (by simp only; rw [hk1]; cases first <;> simp), hbd, if_neg (by simp only; rw [hk2]; simpa using hne)]
        have hi := ih (A1 ++ pcEnc kd (rest.take n)) (cur ++ rest.take n) rs size m' (by rw [List.length_append, hpe, hA1l]; omega) (by rw [hT]; omega)
        rw [hT] at hi
        simp only [Bool.not_false, List.append_assoc] at hi
        exact hi

def logFrom : List UInt8 → List (List UInt8) → List UInt8
  | A, [] => A
  | A, r :: rs => logFrom (A ++ putP A.length true r) rs
theorem logFrom_begins : ∀ (rs : List (List UInt8)) (A : List UInt8), ∃ X, logFrom A rs = A ++ X
  | [], A => ⟨[], by simp [logFrom]⟩
  | r :: rs, A => by
    obtain ⟨X, hX⟩ := logFrom_begins rs (A ++ putP A.length true r)
    exact ⟨putP A.length true r ++ X, by rw [logFrom, hX, List.append_assoc]⟩
theorem logFrom_snoc : ∀ (rs : List (List UInt8)) (A r : List UInt8), logFrom A (rs ++ [r]) = logFrom A rs ++ putP (logFrom A rs).length true r
  | [], A, r => rfl
  | x :: rs, A, r => by
    rw [List.cons_append, logFrom, logFrom_snoc rs, logFrom]
theorem read_log : ∀ (rs : List (List UInt8)) (A : List UInt8) (recs : List (List UInt8)) (cut : Nat), A.length ≤ cut → cut ≤ (logFrom A rs).length →
    ∃ j e, j ≤ rs.length ∧ e ≤ 1 ∧ rdL ((logFrom A rs).take cut) (pcs ((logFrom A rs).take cut) A.length) false [] recs A.length = (recs ++ rs.take j, (logFrom A (rs.take j)).length, e) ∧
      (logFrom A (rs.take j)).length ≤ cut ∧ (j = rs.length ∨ cut < (logFrom A (rs.take (j + 1))).length) ∧ (cut = (logFrom A rs).length → j = rs.length ∧ e = 0)
  | [], A, recs, cut, h1, h2 => by
    have hc : cut = A.length := by simp only [logFrom] at h2; omega
    subst hc
    refine ⟨0, 0, Nat.le_refl _, Nat.zero_le _, ?_, Nat.le_refl _, .inl rfl, fun _ => ⟨rfl, rfl⟩⟩
    simp only [logFrom]
    rw [List.take_length, pcs_end _ _ (Nat.le_refl _)]
    simp [rdL, logFrom]
  | r :: rs, A, recs, cut, h1, h2 => by
    have hlong := put_long A.length true r
    obtain ⟨P1, hP1⟩ : ∃ P1, putP A.length true r = P1 := ⟨_, rfl⟩
    rw [hP1] at hlong
    simp at hlong
    obtain ⟨X, hX⟩ := logFrom_begins rs (A ++ P1)
    have hL : logFrom A (r :: rs) = A ++ P1 ++ X := by rw [logFrom, hP1, hX]
    by_cases hc : cut < A.length + P1.length
    · obtain ⟨e, he, hr⟩ := read_cut A.length true r A [] recs A.length (cut - A.length) rfl (by rw [hP1]; omega)
      rw [hP1] at hr
      have hlog : (logFrom A (r :: rs)).take cut = A ++ P1.take (cut - A.length) := by
        rw [hL, List.take_append_of_le_length (by simp; omega), List.take_append, List.take_of_length_le h1]
      refine ⟨0, e, Nat.zero_le _, he, ?_, by simpa [logFrom] using h1, .inr ?_, ?_⟩
      · rw [hlog]
        simpa [logFrom] using hr
      · simp [logFrom, hP1]
        omega
      · intro e2
        rw [hL] at e2
        simp at e2
        omega
    · have hlog : (logFrom A (r :: rs)).take cut = A ++ (P1 ++ X.take (cut - (A ++ P1).length)) := by
        rw [hL, List.take_append, List.take_of_length_le (by simp; omega), List.append_assoc]
      have hr := read_put A.length true r A (X.take (cut - (A ++ P1).length)) [] recs A.length rfl (by simp)
      rw [hP1] at hr
      obtain ⟨j, e, hj, he, hi, hk1, hk2, hk3⟩ := read_log rs (A ++ P1) (recs ++ [r]) cut (by simp; omega) (by rw [logFrom, hP1] at h2; exact h2)
      have hlog2 : (logFrom (A ++ P1) rs).take cut = A ++ (P1 ++ X.take (cut - (A ++ P1).length)) := by
        rw [← hlog, logFrom, hP1]
      refine ⟨j + 1, e, by simp; omega, he, ?_, ?_, ?_, ?_⟩
      · rw [hlog]
        simp only [Bool.not_true, List.nil_append] at hr
        rw [hr]
        rw [hlog2] at hi
        rw [List.length_append] at hi ⊢
        rw [hi, List.take_succ_cons, logFrom, hP1]
        simp
      · rw [List.take_succ_cons, logFrom, hP1]
        exact hk1
      · rcases hk2 with hk2 | hk2
        · exact .inl (by simp [hk2])
        · right
          rw [List.take_succ_cons, logFrom, hP1]
          exact hk2
      · intro e2
        rw [logFrom, hP1] at e2
        have := hk3 e2
        simp only [List.length_cons]
        omega
end Go.Proofs.YtmlfbihlbiikeaaGreatDoor
namespace Go.Proofs.YtmlfbihlbiikeaaGreatDoor
set_option linter.unusedVariables false
set_option linter.unusedSimpArgs false
structure PSt where
  num : Nat
  v : PV
  log : Nat
  next : Nat
  last : Nat
def PSt.zero (n : Nat) : PSt := ⟨n, noV, 0, 0, 0⟩
def PSt.turn (s : PSt) (x : PE) (u : PV) : PSt := ⟨s.num, u, if 0 < x.log then x.log else s.log, if 0 < x.next then x.next else s.next, if 0 < x.last then x.last else s.last⟩
def stepS (s : PSt) (x : PE) : Option PSt := if (applyV s.v x).1 = 0 then some (s.turn x (applyV s.v x).2) else none
def stepsS : PSt → List PE → Option PSt
  | s, [] => some s
  | s, x :: r => (stepS s x).bind fun t => stepsS t r
theorem stepsS_append : ∀ (l m : List PE) (s : PSt), stepsS s (l ++ m) = (stepsS s l).bind fun t => stepsS t m
  | [], m, s => rfl
  | x :: l, m, s => by
    show (stepS s x).bind (fun t => stepsS t (l ++ m)) = ((stepS s x).bind fun t => stepsS t l).bind fun t => stepsS t m
    cases h : stepS s x with
    | none => rfl
    | some t => exact stepsS_append l m t
theorem stepS_some {s t : PSt} {x : PE} (h : stepS s x = some t) : ∃ u, applyV s.v x = (0, u) ∧ t = s.turn x u := by
  unfold stepS at h
  split at h
  · rename_i h0
    refine ⟨(applyV s.v x).2, ?_, (Option.some.inj h).symm⟩
    rw [← h0]
  · cases h
def decS : PSt → List (List UInt8) → Option PSt
  | s, [] => some s
  | s, b :: r => (decE b).bind fun x => (stepS s x).bind fun t => decS t r
theorem decS_enc : ∀ (l : List PE) (s : PSt), (∀ x ∈ l, x.err = 0) → decS s (l.map PE.enc) = stepsS s l
  | [], s, _ => rfl
  | x :: l, s, h => by
    show (decE x.enc).bind (fun x => (stepS s x).bind fun t => decS t (l.map PE.enc)) = (stepS s x).bind fun t => stepsS t l
    rw [decE_iff.2 ⟨h x (by simp), rfl⟩]
    show (stepS s x).bind (fun t => decS t (l.map PE.enc)) = _
    cases stepS s x with
    | none => rfl
    | some t => exact decS_enc l t (fun y hy => h y (by simp [hy]))
def toldP (num : Nat) (m : List UInt8) : Option PSt :=
  if (walRead m).2.2 = 2 ∨ (walRead m).1 = [] then none else decS (PSt.zero num) (walRead m).1
def manOf (l : List PE) : List UInt8 := logFrom [] (l.map PE.enc)
theorem manOf_snoc (l : List PE) (x : PE) : manOf (l ++ [x]) = manOf l ++ putP (manOf l).length true x.enc := by
  unfold manOf
  rw [List.map_append]
  exact logFrom_snoc _ _ _
theorem told_cut (num : Nat) (l : List PE) (cut : Nat) (hl : cut ≤ (manOf l).length) (he : ∀ x ∈ l, x.err = 0) :
    ∃ j, j ≤ l.length ∧ (manOf (l.take j)).length ≤ cut ∧ (j = l.length ∨ cut < (manOf (l.take (j + 1))).length) ∧ toldP num ((manOf l).take cut) = if j = 0 then none else stepsS (PSt.zero num) (l.take j) := by
  obtain ⟨j, e, hj, he1, hr, h3, h4, _⟩ := read_log (l.map PE.enc) [] [] cut (Nat.zero_le _) hl
  rw [List.length_map] at hj h4
  refine ⟨j, hj, by unfold manOf; rw [List.map_take]; exact h3, ?_, ?_⟩
  · rcases h4 with h4 | h4
    · exact .inl h4
    · exact .inr (by unfold manOf; rw [List.map_take]; exact h4)
  · have hw : walRead ((manOf l).take cut) = ((l.take j).map PE.enc, (logFrom [] ((l.map PE.enc).take j)).length, e) := by
      rw [List.map_take]
      exact hr
    unfold toldP
    rw [hw]
    by_cases h0 : j = 0
    · subst h0
      rw [if_pos rfl, if_pos (.inr (by simp))]
    · rw [if_neg h0]
      show (if e = 2 ∨ (l.take j).map PE.enc = [] then none else decS (PSt.zero num) ((l.take j).map PE.enc)) = _
      rw [if_neg (fun h => ?_), decS_enc _ _ (fun x hx => he x (List.mem_of_mem_take hx))]
      rcases h with h | h
      · omega
      · have h5 := congrArg List.length h
        rw [List.length_map, List.length_take, List.length_nil] at h5
        omega
theorem manOf_mono (l : List PE) : ∀ k, (manOf l).length ≤ (manOf (l ++ k)).length := fun k => by
  unfold manOf
  rw [List.map_append]
  have : ∀ (rs qs A : List (List UInt8)) (B : List UInt8), (logFrom B rs).length ≤ (logFrom B (rs ++ qs)).length := fun rs => by
    induction rs with
    | nil =>
      intro qs A B
      obtain ⟨X, hX⟩ := logFrom_begins qs B
      show B.length ≤ (logFrom B qs).length
      rw [hX, List.length_append]
      omega
    | cons r rs ih => exact fun qs A B => ih qs A _
  exact this _ _ [] _
theorem told_whole (num : Nat) (l : List PE) (hne : l ≠ []) (he : ∀ x ∈ l, x.err = 0) : toldP num (manOf l) = stepsS (PSt.zero num) l := by
  obtain ⟨j, hj, h1, h2, h3⟩ := told_cut num l (manOf l).length (Nat.le_refl _) he
  rw [List.take_length] at h3
  have hjl : j = l.length := by
    rcases h2 with h2 | h2
    · exact h2
    · by_cases hjl : j = l.length
      · exact hjl
      · have h4 := manOf_mono (l.take (j + 1)) (l.drop (j + 1))
        rw [List.take_append_drop] at h4
        omega
  have h0 : j ≠ 0 := fun h => hne (List.eq_nil_of_length_eq_zero (by omega))
  rw [h3, if_neg h0, hjl, List.take_length]
theorem lays_ok : ∀ (l : List PE) (s : PSt), VOk s.v → (∀ x ∈ l, x.err = 0 ∧ x.dels = []) → (l.flatMap PE.adds).Pairwise Compat → (∀ f ∈ l.flatMap PE.adds, ∀ g ∈ s.v.all, Compat f g) →
    ∃ t, stepsS s l = some t ∧ VOk t.v ∧ t.num = s.num ∧ ∀ g, g ∈ t.v.all ↔ g ∈ l.flatMap PE.adds ∨ g ∈ s.v.all
  | [], s, h, _, _, _ => ⟨s, rfl, h, rfl, fun g => by simp⟩
  | x :: l, s, h, he, hp, hc => by
    obtain ⟨he1, hd⟩ := he x (by simp)
    rw [List.flatMap_cons] at hp hc
    obtain ⟨hp1, hp2, hp3⟩ := List.pairwise_append.1 hp
    have hfe : ∀ f ∈ x.adds, f.err = 0 := (PE.err_zero he1).2.2.2.2.2.2
    have ha : applyV s.v x = addsV s.v x.adds := apply_mk h he1 (by rw [hd]; rfl)
    have h0 : (addsV s.v x.adds).1 = 0 := (adds_iff h hfe).2 ⟨hp1, fun f hf g hg => hc f (List.mem_append_left _ hf) g hg⟩
    obtain ⟨k1, k2⟩ := adds_ok h hfe h0
    obtain ⟨t, t1, t2, t3, t4⟩ := lays_ok l (s.turn x (addsV s.v x.adds).2) k1 (fun y hy => he y (by simp [hy])) hp2 (fun f hf g hg => by
      rcases (k2 g).1 hg with hg | hg
      · exact (hp3 g hg f hf).symm
      · exact hc f (List.mem_append_right _ hf) g hg)
    refine ⟨t, ?_, t2, t3, fun g => ?_⟩
    · show (stepS s x).bind (fun t => stepsS t l) = some t
      have hs : stepS s x = some (s.turn x (addsV s.v x.adds).2) := by
        unfold stepS
        rw [ha, if_pos h0]
      rw [hs]
      exact t1
    · rw [t4 g, show (s.turn x (addsV s.v x.adds).2).v = (addsV s.v x.adds).2 from rfl, k2 g, List.flatMap_cons, List.mem_append]
      constructor
      · rintro (h | h | h)
        · exact .inl (.inr h)
        · exact .inl (.inl h)
        · exact .inr h
      · rintro ((h | h) | h)
        · exact .inr (.inl h)
        · exact .inl h
        · exact .inr (.inr h)
theorem lays_same {v : PV} (hv : VOk v) (l : List PE) (n : Nat) (he : ∀ x ∈ l, x.err = 0 ∧ x.dels = []) (hp : (l.flatMap PE.adds).Perm v.all) : ∃ t, stepsS (PSt.zero n) l = some t ∧ VOk t.v ∧ t.num = n ∧ ∀ k, k < 4 → t.v k = v k := by
  have hnd : v.all.Nodup := by
    have := hv.one
    exact (List.pairwise_map.1 this).imp (fun h e => h (congrArg PF.num e))
  have hpw : v.all.Pairwise Compat := by
    rw [List.pairwise_iff_getElem]
    intro i j hi hj hij
    refine hv.compat (List.getElem_mem hi) (List.getElem_mem hj) (fun e => ?_)
    have := List.pairwise_iff_getElem.1 hnd i j hi hj hij
    exact this e
  have hp2 : (l.flatMap PE.adds).Pairwise Compat := hp.symm.pairwise hpw (fun h => h.symm)
  obtain ⟨t, t1, t2, t3, t4⟩ := lays_ok l (PSt.zero n) VOk.none he hp2 (fun f hf g hg => by simp [PSt.zero, PV.all, noV] at hg)
  refine ⟨t, t1, t2, t3, VOk.ext t2 hv (fun g => ?_)⟩
  rw [t4 g, hp.mem_iff]
  simp [PSt.zero, PV.all, noV]
end Go.Proofs.YtmlfbihlbiikeaaGreatDoor
namespace Go.Proofs.YtmlfbihlbiikeaaGreatDoor
set_option linter.unusedVariables false
def chGF {α : Type} : Nat → Nat → List α → List (List α)
  | 0, _, _ => []
  | f + 1, iv, l => if l = [] then [] else l.take iv :: chGF f iv (l.drop iv)
def chG {α : Type} (iv : Nat) (l : List α) : List (List α) := chGF l.length iv l
theorem chGF_more {α : Type} (iv : Nat) (hi : 1 ≤ iv) : ∀ (f g : Nat) (l : List α), l.length ≤ f → l.length ≤ g → chGF f iv l = chGF g iv l
  | 0, 0, l, _, _ => rfl
  | 0, g + 1, l, hf, _ => by
    obtain rfl := List.eq_nil_of_length_eq_zero (by omega : l.length = 0)
    simp [chGF]
  | f + 1, 0, l, _, hg => by
    obtain rfl := List.eq_nil_of_length_eq_zero (by omega : l.length = 0)
    simp [chGF]
  | f + 1, g + 1, l, hf, hg => by
    unfold chGF
    split
    · rfl
    · rename_i h
      have : 0 < l.length := List.length_pos_iff.2 h
      rw [chGF_more iv hi f g (l.drop iv) (by simp; omega) (by simp; omega)]
theorem chG_nil {α : Type} (iv : Nat) : chG iv ([] : List α) = [] := rfl
theorem chG_cons {α : Type} {iv : Nat} (hi : 1 ≤ iv) {l : List α} (h : l ≠ []) : chG iv l = l.take iv :: chG iv (l.drop iv) := by
  have h0 : 0 < l.length := List.length_pos_iff.2 h
  unfold chG
  obtain ⟨f, hf⟩ : ∃ f, l.length = f + 1 := ⟨l.length - 1, by omega⟩
  rw [hf, chGF, if_neg h, chGF_more iv hi f (l.drop iv).length _ (by simp; omega) (Nat.le_refl _)]
theorem chG_ind {α : Type} {iv : Nat} (hi : 1 ≤ iv) {P : List α → Prop} (h0 : P []) (h1 : ∀ l, l ≠ [] → P (l.drop iv) → P l) : ∀ l, P l := by
  have : ∀ n (l : List α), l.length ≤ n → P l := by
    intro n
    induction n with
    | zero =>
      intro l hl
      obtain rfl := List.eq_nil_of_length_eq_zero (by omega : l.length = 0)
      exact h0
    | succ n ih =>
      intro l hl
      by_cases h : l = []
      · subst h; exact h0
      · have : 0 < l.length := List.length_pos_iff.2 h
        exact h1 l h (ih _ (by simp; omega))
  exact fun l => this l.length l (Nat.le_refl _)
theorem chG_flat {α : Type} {iv : Nat} (hi : 1 ≤ iv) (l : List α) : (chG iv l).flatten = l := by
  refine chG_ind hi (P := fun l => (chG iv l).flatten = l) rfl (fun l h ih => ?_) l
  show (chG iv l).flatten = l
  rw [chG_cons hi h, List.flatten_cons, ih, List.take_append_drop]
theorem chG_mem {α : Type} {iv : Nat} (hi : 1 ≤ iv) (l : List α) : ∀ c ∈ chG iv l, c ≠ [] ∧ c.length ≤ iv ∧ ∀ e ∈ c, e ∈ l := by
  refine chG_ind hi (P := fun l => ∀ c ∈ chG iv l, c ≠ [] ∧ c.length ≤ iv ∧ ∀ e ∈ c, e ∈ l) (by simp [chG_nil]) (fun l h ih => ?_) l
  intro c hc
  rw [chG_cons hi h] at hc
  rcases List.mem_cons.1 hc with rfl | hc
  · refine ⟨?_, by simp; omega, fun e he => List.mem_of_mem_take he⟩
    intro e
    have := congrArg List.length e
    have h0 : 0 < l.length := List.length_pos_iff.2 h
    rw [List.length_take, List.length_nil] at this
    omega
  · obtain ⟨a, b, d⟩ := ih c hc
    exact ⟨a, b, fun e he => List.mem_of_mem_drop (d e he)⟩
theorem chG_at {α : Type} {iv : Nat} (hi : 1 ≤ iv) (l : List α) : ∀ j, (j * iv < l.length ↔ j < (chG iv l).length) ∧ ∀ h : j < (chG iv l).length, (chG iv l)[j] = (l.drop (j * iv)).take iv := by
  refine chG_ind hi (P := fun l => ∀ j, (j * iv < l.length ↔ j < (chG iv l).length) ∧ ∀ h : j < (chG iv l).length, (chG iv l)[j] = (l.drop (j * iv)).take iv) ?_ (fun l hne ih j => ?_) l
  · intro j
    refine ⟨by simp [chG_nil], fun h => ?_⟩
    simp [chG_nil] at h
  · have h0 : 0 < l.length := List.length_pos_iff.2 hne
    have hcc := chG_cons hi hne
    have hl : (chG iv l).length = (chG iv (l.drop iv)).length + 1 := by rw [hcc]; simp
    cases j with
    | zero =>
      refine ⟨by rw [hl]; simp; omega, fun h => ?_⟩
      simp [hcc]
    | succ j =>
      obtain ⟨i1, i2⟩ := ih j
      have hmul : (j + 1) * iv = j * iv + iv := by rw [Nat.add_mul, Nat.one_mul]
      refine ⟨?_, fun h => ?_⟩
      · rw [hl, hmul]
        rw [List.length_drop] at i1
        omega
      · have hj : j < (chG iv (l.drop iv)).length := by omega
        have := i2 hj
        rw [List.drop_drop, show iv + j * iv = (j + 1) * iv by omega] at this
        rw [← this]
        simp [hcc]
end Go.Proofs.YtmlfbihlbiikeaaGreatDoor
