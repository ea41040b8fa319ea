/- A record in which a bit is turned is not read, what is ahead of it is: plainly. -/
import Derived.Test.YtdhfimolgcnejaaW9Log
namespace Go.Proofs.Ytdhfimolgcnejaa

theorem pcs_len (b : List UInt8) : ∀ (f p : Nat), (pcsF f b p).length ≤ f
  | 0, _ => Nat.le_refl _
  | f + 1, p => by
    unfold pcsF
    split
    · simp
    · split
      · have := pcs_len b f (p + leftN p)
        omega
      · split
        · simp
        · have := pcs_len b f (pcAt b p).behind
          simp
          omega
theorem pcs_few (b : List UInt8) : (pcs b 0).length ≤ b.length := by
  have := pcs_len b (b.length - 0) 0
  unfold pcs
  omega
theorem leNat_inj : ∀ (l r : List UInt8), l.length = r.length → leNat l = leNat r → l = r
  | [], [], _, _ => rfl
  | [], _ :: _, h, _ => by simp at h
  | _ :: _, [], h, _ => by simp at h
  | c :: l, d :: r, h, he => by
    have h1 : c.toNat < 256 := UInt8.toNat_lt c
    have h2 : d.toNat < 256 := UInt8.toNat_lt d
    simp only [leNat] at he
    have e1 : c.toNat = d.toNat := by omega
    have e2 : leNat l = leNat r := by omega
    rw [UInt8.toNat_inj.1 e1, leNat_inj l r (by simpa using h) e2]
/-- A piece whose sum is not its own. -/
theorem pcAt_other (A s4 C body : List UInt8) (k : UInt8) (n : Nat) (hs : s4.length = 4) (hb : body.length = n) (hroom : 7 + n ≤ leftN A.length) (hne : leNat s4 ≠ sumN k body) :
    (pcAt (A ++ (s4 ++ (fxEnc n 2 ++ (k :: (body ++ C))))) A.length).fault ≠ 0 := by
  have hl := leftN_pos A.length
  have hn : n < 65536 := by omega
  have e2 : (fxEnc n 2).length = 2 := fxEnc_length _ _
  have hlen : (A ++ (s4 ++ (fxEnc n 2 ++ (k :: (body ++ C))))).length - A.length = 7 + n + C.length := by
    simp only [List.length_append, List.length_cons, hs, e2, hb]
    omega
  have hcnt : cntN (A ++ (s4 ++ (fxEnc n 2 ++ (k :: (body ++ C))))) A.length = n := by
    unfold cntN
    rw [drop_add, List.drop_left' hs, List.take_left' e2, leNat_fxEnc]
    exact Nat.mod_eq_of_lt (by simpa using hn)
  have hsum : leNat (((A ++ (s4 ++ (fxEnc n 2 ++ (k :: (body ++ C))))).drop A.length).take 4) = leNat s4 := by
    rw [List.drop_left, List.take_left' hs]
  have hkind : (A ++ (s4 ++ (fxEnc n 2 ++ (k :: (body ++ C))))).getD (A.length + 6) 0 = k := by
    rw [getD_add, ← List.append_assoc, show (6 : Nat) = (s4 ++ fxEnc n 2).length + 0 by simp [hs, e2], getD_add]
    rfl
  have hbody : ((A ++ (s4 ++ (fxEnc n 2 ++ (k :: (body ++ C))))).drop (A.length + 7)).take n = body := by
    rw [drop_add, ← List.append_assoc, show (7 : Nat) = (s4 ++ fxEnc n 2).length + 1 by simp [hs, e2], drop_add]
    simp [← hb]
  unfold pcAt
  rw [hlen, hcnt, hsum, hkind, hbody, if_neg (by omega), if_neg (by omega), if_neg (by omega), if_pos hne]
  split <;> simp
theorem putP_whole (p : Nat) (r : List UInt8) (h : 7 + r.length ≤ leftN p) : putP p true r = pcEnc 1 r := by
  have hp : padN p = 0 := by unfold padN; rw [if_neg (by omega)]
  have hr : roomN p = leftN p - 7 := by unfold roomN; rw [if_neg (by omega)]
  have hn : nextN p r = r.length := by unfold nextN; rw [hr]; omega
  have hk : kindN true (decide (r.length = r.length)) = 1 := by rw [decide_eq_true rfl]; rfl
  rw [putP_step p true r (by simp), hp, hn, List.drop_length, putP_done, hk, List.take_length, List.append_nil, List.replicate_zero, List.nil_append]
theorem mask_crc (l r : List UInt8) (h : maskN (crc l) = maskN (crc r)) : crc l = crc r := by
  have h1 : crc l < 4294967296 := xor32 (by omega) (crcGo_lt _ (by omega))
  have h2 : crc r < 4294967296 := xor32 (by omega) (crcGo_lt _ (by omega))
  have := congrArg unmaskN h
  rwa [unmask_mask _ h1, unmask_mask _ h2] at this
theorem mask_other (l : List UInt8) (j : Nat) (x : UInt8) (hj : j < l.length) (hx : l.getD j 0 ≠ x) : maskN (crc l) ≠ maskN (crc (l.set j x)) := fun e => crc_other l j x hj hx (mask_crc _ _ e)
theorem sumN_eq (k : UInt8) (b l : List UInt8) (h : k :: b = l) : sumN k b = maskN (crc l) := by subst h; rfl
theorem sumN_other (l body body' : List UInt8) (k k' : UInt8) (j : Nat) (x : UInt8) (hl : k :: body = l) (hj : j < l.length) (hx : l.getD j 0 ≠ x) (he : l.set j x = k' :: body') : sumN k body ≠ sumN k' body' := by
  rw [sumN_eq k body l hl, sumN_eq k' body' (l.set j x) he.symm]
  exact mask_other l j x hj hx
/-- The log of two records, a byte of the second one another. -/
theorem read_turned (ahead record behind : List UInt8) (q : Nat) (x : UInt8) (h1 : ahead.length ≤ 40) (h2 : record.length ≤ 40) (hq : q < 7 + record.length) (hq4 : q ≠ 4) (hq5 : q ≠ 5) (hx : (logFrom [] [ahead, record]).getD (7 + ahead.length + q) 0 ≠ x) :
    ∃ f, f ≠ 0 ∧ walRead ((logFrom [] [ahead, record]).set (7 + ahead.length + q) x ++ behind) = ([ahead], 7 + ahead.length, f) ∧ (pcs ((logFrom [] [ahead, record]).set (7 + ahead.length + q) x ++ behind) 0).length ≤ 2 := by
  have hl0 : leftN 0 = 128 := rfl
  have hlf : leftN (7 + ahead.length) = 128 - (7 + ahead.length) := by unfold leftN; omega
  have e4 : (fxEnc (sumN 1 record) 4).length = 4 := fxEnc_length _ _
  have e2 : (fxEnc record.length 2).length = 2 := fxEnc_length _ _
  have hlog : logFrom [] [ahead, record] = pcEnc 1 ahead ++ pcEnc 1 record := by
    simp only [logFrom, List.nil_append, List.length_nil]
    rw [putP_whole 0 ahead (by omega), pcEnc_length, putP_whole _ record (by omega)]
  have hA : (pcEnc 1 ahead).length = 7 + ahead.length := pcEnc_length _ _
  rw [hlog] at hx ⊢
  have hset : (pcEnc 1 ahead ++ pcEnc 1 record).set (7 + ahead.length + q) x = pcEnc 1 ahead ++ (pcEnc 1 record).set q x := by
    rw [List.set_append_right _ _ (by omega), hA]
    congr 2
    omega
  have hx2 : (pcEnc 1 record).getD q 0 ≠ x := by
    rw [← hA, getD_add] at hx
    exact hx
  rw [hset, List.append_assoc]
  -- the second piece is none
  have hbad : (pcAt (pcEnc 1 ahead ++ ((pcEnc 1 record).set q x ++ behind)) (7 + ahead.length)).fault ≠ 0 := by
    rw [← hA]
    have hpc : pcEnc 1 record = fxEnc (sumN 1 record) 4 ++ (fxEnc record.length 2 ++ (1 :: record)) := rfl
    by_cases hq3 : q < 4
    · have hE : (pcEnc 1 record).set q x ++ behind = (fxEnc (sumN 1 record) 4).set q x ++ (fxEnc record.length 2 ++ (1 :: (record ++ behind))) := by
        rw [hpc, List.set_append_left _ _ (by omega)]
        simp
      rw [hE]
      refine pcAt_other _ _ _ _ _ _ (by simp [e4]) rfl (by rw [hA]; omega) ?_
      intro e
      have hsm : leNat (fxEnc (sumN 1 record) 4) = sumN 1 record := by
        rw [leNat_fxEnc]
        exact Nat.mod_eq_of_lt (by unfold sumN; exact maskN_lt _)
      have hee := leNat_inj _ _ (by simp) (e.trans hsm.symm)
      apply hx2
      rw [hpc]
      have : (fxEnc (sumN 1 record) 4).getD q 0 = x := by
        rw [← hee]
        simp [List.getD, e4, hq3]
      rw [← this]
      simp [List.getD, List.getElem?_append_left (show q < (fxEnc (sumN 1 record) 4).length by omega)]
    · obtain ⟨j, rfl⟩ : ∃ j, q = 6 + j := ⟨q - 6, by omega⟩
      have hlen6 : (fxEnc (sumN 1 record) 4 ++ fxEnc record.length 2).length = 6 := by simp [e4, e2]
      obtain ⟨k', body', hkb⟩ : ∃ k' body', ((1 : UInt8) :: record).set j x = k' :: body' := by
        cases j with
        | zero => exact ⟨x, record, rfl⟩
        | succ j => exact ⟨1, record.set j x, rfl⟩
      have hbl : body'.length = record.length := by
        have := congrArg List.length hkb
        simp at this
        omega
      have hE : (pcEnc 1 record).set (6 + j) x ++ behind = fxEnc (sumN 1 record) 4 ++ (fxEnc record.length 2 ++ (k' :: (body' ++ behind))) := by
        rw [hpc, ← List.append_assoc, List.set_append_right _ _ (by omega), hlen6, Nat.add_sub_cancel_left, hkb]
        simp
      rw [hE]
      refine pcAt_other _ _ _ _ _ _ e4 hbl (by rw [hA]; omega) ?_
      rw [leNat_fxEnc, Nat.mod_eq_of_lt (by unfold sumN; exact maskN_lt _)]
      refine sumN_other _ record body' 1 k' j x rfl (by simp; omega) ?_ hkb
      intro e
      apply hx2
      rw [hpc, ← List.append_assoc, ← hlen6, getD_add]
      exact e
  obtain ⟨b, hb⟩ : ∃ b, pcEnc 1 ahead ++ ((pcEnc 1 record).set q x ++ behind) = b := ⟨_, rfl⟩
  have hblen : 7 + ahead.length < b.length := by
    rw [← hb]
    simp only [List.length_append, List.length_set, pcEnc_length]
    omega
  have hat : pcAt b 0 = ⟨0, 1, 7, ahead.length⟩ := by
    have := pcAt_enc [] ((pcEnc 1 record).set q x ++ behind) 1 ahead (by decide) (by simp only [List.length_nil]; omega)
    simp only [List.nil_append, List.length_nil, hb, Nat.zero_add] at this
    exact this
  have hbd : Pc.body b ⟨0, 1, 7, ahead.length⟩ = ahead := by
    have := body_enc [] ((pcEnc 1 record).set q x ++ behind) 1 ahead
    simp only [List.nil_append, List.length_nil, hb, Nat.zero_add] at this
    exact this
  rw [hb] at hbad ⊢
  have hp : pcs b 0 = ⟨0, 1, 7, ahead.length⟩ :: [pcAt b (7 + ahead.length)] := by
    rw [pcs_good b 0 (by omega) (by omega) (by rw [hat]), hat]
    congr 1
    show pcs b (7 + ahead.length) = _
    exact pcs_bad b _ hblen (by omega) hbad
  refine ⟨_, hbad, ?_, by rw [hp]; simp⟩
  unfold walRead
  rw [hp, rdL, if_neg (by simp), if_neg (show ¬ (decide ((1 : UInt8).toNat < 3) = false) by decide), if_pos (show (1 : UInt8).toNat = 1 ∨ (1 : UInt8).toNat = 4 from .inl rfl), hbd, rdL, if_pos hbad]
  rfl
end Go.Proofs.Ytdhfimolgcnejaa
