/- Logs of several records: read whole, or cut anywhere: plainly. -/
import Derived.Test.YtdhfimolgcnejaaW9Back
namespace Go.Proofs.Ytdhfimolgcnejaa

/-- A record that is cut ends the reading, clean or torn. -/
theorem read_cut : ∀ (p : Nat) (first : Bool) (rest A cur : List UInt8) (rs : List (List UInt8)) (size m : Nat), A.length = p → m < (putP p first rest).length →
    ∃ e, e ≤ 1 ∧ rdL (A ++ (putP p first rest).take m) (pcs (A ++ (putP p first rest).take m) p) (!first) cur rs size = (rs, size, e) := by
  intro p first rest
  refine put_ind (C := fun p first rest => ∀ (A cur : List UInt8) (rs : List (List UInt8)) (size m : Nat), A.length = p → m < (putP p first rest).length →
    ∃ e, e ≤ 1 ∧ rdL (A ++ (putP p first rest).take m) (pcs (A ++ (putP p first rest).take m) p) (!first) cur rs size = (rs, size, e)) ?_ ?_ p first rest
  · intro p A cur rs size m _ h
    rw [putP_done] at h
    exact absurd h (Nat.not_lt_zero _)
  · intro p first rest h ih A cur rs size m hA hm
    have hn := next_le p rest
    have hpl := pad_left p
    have hstep := putP_step p first rest h
    have hskip := pcs_skip
    obtain ⟨n, hnx⟩ : ∃ n, nextN p rest = n := ⟨_, rfl⟩
    obtain ⟨P, hP⟩ : ∃ P, padN p = P := ⟨_, rfl⟩
    rw [hnx] at hn
    rw [hnx, hP] at hstep ih
    rw [hP] at hpl
    obtain ⟨kd, hkd⟩ : ∃ kd, kindN first (decide (n = rest.length)) = kd := ⟨_, rfl⟩
    rw [hkd] at hstep
    have hk := kindN_ok first (decide (n = rest.length))
    have hk1 := kindN_first first (decide (n = rest.length))
    have hk2 := kindN_last first (decide (n = rest.length))
    rw [hkd] at hk hk1 hk2
    obtain ⟨T, hT⟩ : ∃ T, putP (p + P + 7 + n) false (rest.drop n) = T := ⟨_, rfl⟩
    rw [hT] at hstep
    have htl : (rest.take n).length = n := by simp; omega
    have hpe : (pcEnc kd (rest.take n)).length = 7 + n := by rw [pcEnc_length, htl]
    have hlen : (putP p first rest).length = P + (7 + n) + T.length := by
      rw [hstep]
      simp only [List.length_append, List.length_replicate, hpe]
      omega
    rw [hlen] at hm
    have hfin : ∀ bg : Bool, (if bg = true then 1 else 0) ≤ 1 := by intro bg; cases bg <;> simp
    by_cases hc1 : m ≤ P
    · have hb : (A ++ (putP p first rest).take m).length = p + m := by
        rw [List.length_append, List.length_take, hlen, hA]
        omega
      have hnil : pcs (A ++ (putP p first rest).take m) p = [] := by
        by_cases h0 : m = 0
        · exact pcs_end _ _ (by omega)
        · have h7 : leftN p < 7 ∧ leftN p = P := by
            unfold padN at hP
            split at hP
            · exact ⟨by assumption, hP⟩
            · omega
          rw [pcs_skip _ p (by omega) h7.1, h7.2]
          exact pcs_end _ _ (by omega)
      rw [hnil]
      exact ⟨_, hfin (!first), rfl⟩
    · obtain ⟨A1, hA1⟩ : ∃ A1, A ++ List.replicate P 0 = A1 := ⟨_, rfl⟩
      have hA1l : A1.length = p + P := by rw [← hA1]; simp [hA]
      have hlog : A ++ (putP p first rest).take m = A1 ++ (pcEnc kd (rest.take n) ++ T).take (m - P) := by
        rw [hstep, List.take_append, List.length_replicate, List.take_of_length_le (by simp; omega), ← hA1]
        simp
      rw [hlog]
      by_cases hc2 : m - P < 7 + n
      · rw [List.take_append_of_le_length (by omega)]
        have hf := pcAt_cut A1 kd (rest.take n) (m - P) (by omega) (by rw [htl, hA1l]; omega)
        rw [hA1l] at hf
        have hlt : p + P < (A1 ++ (pcEnc kd (rest.take n)).take (m - P)).length := by
          rw [List.length_append, List.length_take, hA1l, hpe]
          omega
        have hpp := pad_pcs (A1 ++ (pcEnc kd (rest.take n)).take (m - P)) p (by rw [hP]; exact hlt)
        rw [hP] at hpp
        rw [hpp, pcs_bad _ _ hlt hpl.1 (by rw [hf]; omega)]
        refine ⟨1, Nat.le_refl _, ?_⟩
        rw [rdL, if_pos (by rw [hf]; omega), hf]
      · have hne : n ≠ rest.length := by
          intro e
          have : T = [] := by rw [← hT, e, List.drop_length, putP_done]
          rw [this] at hm
          simp at hm
          omega
        rw [List.take_append, hpe, List.take_of_length_le (by omega)]
        obtain ⟨m', hm'⟩ : ∃ m', m - P - (7 + n) = m' := ⟨_, rfl⟩
        rw [hm']
        have hat : pcAt (A1 ++ (pcEnc kd (rest.take n) ++ T.take m')) (p + P) = ⟨0, kd, p + P + 7, n⟩ := by
          have := pcAt_enc A1 (T.take m') kd (rest.take n) hk (by rw [htl, hA1l]; omega)
          rw [hA1l, htl] at this
          exact this
        have hbd : Pc.body (A1 ++ (pcEnc kd (rest.take n) ++ T.take m')) ⟨0, kd, p + P + 7, n⟩ = rest.take n := by
          have := body_enc A1 (T.take m') kd (rest.take n)
          rw [hA1l, htl] at this
          exact this
        have hlt : p + P < (A1 ++ (pcEnc kd (rest.take n) ++ T.take m')).length := by
          simp only [List.length_append, hpe, hA1l]
          omega
        have hpp := pad_pcs (A1 ++ (pcEnc kd (rest.take n) ++ T.take m')) p (by rw [hP]; exact hlt)
        rw [hP] at hpp
        rw [hpp, pcs_good _ _ hlt hpl.1 (by rw [hat]), hat]
        have hbeh : Pc.behind ⟨0, kd, p + P + 7, n⟩ = p + P + 7 + n := rfl
        rw [hbeh, rdL, if_neg (by simp), if_neg (by simp only; rw [hk1]; cases first <;> simp), hbd, if_neg (by simp only; rw [hk2]; simpa using hne)]
        have hi := ih (A1 ++ pcEnc kd (rest.take n)) (cur ++ rest.take n) rs size m' (by rw [List.length_append, hpe, hA1l]; omega) (by rw [hT]; omega)
        rw [hT] at hi
        simp only [Bool.not_false, List.append_assoc] at hi
        exact hi

/-- Records one behind the other. -/
def logFrom : List UInt8 → List (List UInt8) → List UInt8
  | A, [] => A
  | A, r :: rs => logFrom (A ++ putP A.length true r) rs
theorem logFrom_begins : ∀ (rs : List (List UInt8)) (A : List UInt8), ∃ X, logFrom A rs = A ++ X
  | [], A => ⟨[], by simp [logFrom]⟩
  | r :: rs, A => by
    obtain ⟨X, hX⟩ := logFrom_begins rs (A ++ putP A.length true r)
    exact ⟨putP A.length true r ++ X, by rw [logFrom, hX, List.append_assoc]⟩
theorem logFrom_snoc : ∀ (rs : List (List UInt8)) (A r : List UInt8), logFrom A (rs ++ [r]) = logFrom A rs ++ putP (logFrom A rs).length true r
  | [], A, r => rfl
  | x :: rs, A, r => by
    rw [List.cons_append, logFrom, logFrom_snoc rs, logFrom]
/-- A log is read, whole; cut anywhere, a beginning of it. -/
theorem read_log : ∀ (rs : List (List UInt8)) (A : List UInt8) (recs : List (List UInt8)) (cut : Nat), A.length ≤ cut → cut ≤ (logFrom A rs).length →
    ∃ j e, j ≤ rs.length ∧ e ≤ 1 ∧ rdL ((logFrom A rs).take cut) (pcs ((logFrom A rs).take cut) A.length) false [] recs A.length = (recs ++ rs.take j, (logFrom A (rs.take j)).length, e) ∧
      (logFrom A (rs.take j)).length ≤ cut ∧ (j = rs.length ∨ cut < (logFrom A (rs.take (j + 1))).length) ∧ (cut = (logFrom A rs).length → j = rs.length ∧ e = 0)
  | [], A, recs, cut, h1, h2 => by
    have hc : cut = A.length := by simp only [logFrom] at h2; omega
    subst hc
    refine ⟨0, 0, Nat.le_refl _, Nat.zero_le _, ?_, Nat.le_refl _, .inl rfl, fun _ => ⟨rfl, rfl⟩⟩
    simp only [logFrom]
    rw [List.take_length, pcs_end _ _ (Nat.le_refl _)]
    simp [rdL, logFrom]
  | r :: rs, A, recs, cut, h1, h2 => by
    have hlong := put_long A.length true r
    obtain ⟨P1, hP1⟩ : ∃ P1, putP A.length true r = P1 := ⟨_, rfl⟩
    rw [hP1] at hlong
    simp at hlong
    obtain ⟨X, hX⟩ := logFrom_begins rs (A ++ P1)
    have hL : logFrom A (r :: rs) = A ++ P1 ++ X := by rw [logFrom, hP1, hX]
    by_cases hc : cut < A.length + P1.length
    · obtain ⟨e, he, hr⟩ := read_cut A.length true r A [] recs A.length (cut - A.length) rfl (by rw [hP1]; omega)
      rw [hP1] at hr
      have hlog : (logFrom A (r :: rs)).take cut = A ++ P1.take (cut - A.length) := by
        rw [hL, List.take_append_of_le_length (by simp; omega), List.take_append, List.take_of_length_le h1]
      refine ⟨0, e, Nat.zero_le _, he, ?_, by simpa [logFrom] using h1, .inr ?_, ?_⟩
      · rw [hlog]
        simpa [logFrom] using hr
      · simp [logFrom, hP1]
        omega
      · intro e2
        rw [hL] at e2
        simp at e2
        omega
    · have hlog : (logFrom A (r :: rs)).take cut = A ++ (P1 ++ X.take (cut - (A ++ P1).length)) := by
        rw [hL, List.take_append, List.take_of_length_le (by simp; omega), List.append_assoc]
      have hr := read_put A.length true r A (X.take (cut - (A ++ P1).length)) [] recs A.length rfl (by simp)
      rw [hP1] at hr
      obtain ⟨j, e, hj, he, hi, hk1, hk2, hk3⟩ := read_log rs (A ++ P1) (recs ++ [r]) cut (by simp; omega) (by rw [logFrom, hP1] at h2; exact h2)
      have hlog2 : (logFrom (A ++ P1) rs).take cut = A ++ (P1 ++ X.take (cut - (A ++ P1).length)) := by
        rw [← hlog, logFrom, hP1]
      refine ⟨j + 1, e, by simp; omega, he, ?_, ?_, ?_, ?_⟩
      · rw [hlog]
        simp only [Bool.not_true, List.nil_append] at hr
        rw [hr]
        rw [hlog2] at hi
        rw [List.length_append] at hi ⊢
        rw [hi, List.take_succ_cons, logFrom, hP1]
        simp
      · rw [List.take_succ_cons, logFrom, hP1]
        exact hk1
      · rcases hk2 with hk2 | hk2
        · exact .inl (by simp [hk2])
        · right
          rw [List.take_succ_cons, logFrom, hP1]
          exact hk2
      · intro e2
        rw [logFrom, hP1] at e2
        have := hk3 e2
        simp only [List.length_cons]
        omega
end Go.Proofs.Ytdhfimolgcnejaa
