/- Bytes as operations, by plain functions: what is laid is read, and only that. -/
import Derived.Test.YtohhdbmkbfehfaaPlainBEnc
namespace Go.Proofs.Ytohhdbmkbfehfaa
/-- The operation at the head of bytes, and what is behind it. -/
def opRead : List UInt8 → Option (Opn × List UInt8)
  | [] => none
  | c :: rest =>
    if (txtRead rest).2.2 = 0 then
      (if c.toNat = 1 then
        (if (txtRead (rest.drop (txtRead rest).2.1)).2.2 = 0 then
          some (⟨1, strOf (txtRead rest).1, strOf (txtRead (rest.drop (txtRead rest).2.1)).1⟩, (rest.drop (txtRead rest).2.1).drop (txtRead (rest.drop (txtRead rest).2.1)).2.1)
        else none)
      else some (⟨(c.toNat : Int), strOf (txtRead rest).1, ByteArray.empty⟩, rest.drop (txtRead rest).2.1))
    else none
def opsRead : Nat → List UInt8 → Option (List Opn)
  | 0, _ => some []
  | n + 1, bs => match opRead bs with
    | none => none
    | some (o, rest) => match opsRead n rest with
      | none => none
      | some l => some (o :: l)
/-- The number and the operations that bytes are. -/
def bDec (bs : List UInt8) : Nat × List Opn × Nat :=
  if bs.length < 12 then (0, [], 32)
  else if 64 < leNat ((bs.drop 8).take 4) then (0, [], 32)
  else match opsRead (leNat ((bs.drop 8).take 4)) (bs.drop 12) with
    | none => (0, [], 32)
    | some l => if bchk (leNat (bs.take 8)) l = 0 ∧ bEnc (leNat (bs.take 8)) l = bs then (leNat (bs.take 8), l, 0) else (0, [], 32)
theorem strOf_data (s : ByteArray) : strOf s.data.toList = s := by cases s; rfl
theorem opRead_enc (o : Opn) (h : opChk o = 0) (more : List UInt8) : opRead (opEnc o ++ more) = some (o, more) := by
  obtain ⟨h1, h2, h3, h4⟩ := opChk_zero h
  have hk := txtRead_put o.key.data.toList ((if o.kind = 1 then txtPut o.val.data.toList else []) ++ more) (by rw [data_len]; omega)
  have hv := txtRead_put o.val.data.toList more (by rw [data_len]; omega)
  unfold opEnc
  rw [List.cons_append, List.append_assoc, opRead, hk]
  simp only [if_true, List.drop_left']
  rcases h1 with h1 | h1
  · have hz := h4 h1
    have hval : o.val = ByteArray.empty := by
      cases hv' : o.val with
      | mk d =>
        rw [hv'] at hz
        have : d = #[] := Array.eq_empty_of_size_eq_zero hz
        rw [this]; rfl
    obtain ⟨a, b, c⟩ := o
    simp only at h1 hval
    subst h1 hval
    simp [loByte, strOf_data]
  · obtain ⟨a, b, c⟩ := o
    simp only at h1
    subst h1
    simp only [if_true]
    simp only at hv
    rw [hv]
    simp only [if_true]
    rw [List.drop_left' rfl]
    simp [loByte, strOf_data]
theorem opsRead_enc : ∀ (l : List Opn), opsChk l = 0 → ∀ more, opsRead l.length (opsEnc l ++ more) = some l
  | [], _, _ => rfl
  | o :: r, h, more => by
    have ho : opChk o = 0 := by
      have := opsChk_all (o :: r) h 0 (by simp)
      simpa [List.getD] using this
    have hr : opsChk r = 0 := by
      unfold opsChk at h
      rwa [if_pos ho] at h
    rw [List.length_cons, opsRead, opsEnc, List.append_assoc, opRead_enc o ho]
    simp only
    rw [opsRead_enc r hr more]
theorem bEnc_parts {q : Nat} {l : List Opn} (h : bchk q l = 0) : (bEnc q l).take 8 = fxEnc q 8 ∧ ((bEnc q l).drop 8).take 4 = fxEnc l.length 4 ∧ (bEnc q l).drop 12 = opsEnc l ∧ 12 ≤ (bEnc q l).length := by
  rw [bEnc_yes h]
  have e8 := fxEnc_length q 8
  have e4 := fxEnc_length l.length 4
  have d8 : (fxEnc q 8 ++ (fxEnc l.length 4 ++ opsEnc l)).drop 8 = fxEnc l.length 4 ++ opsEnc l := List.drop_left' e8
  refine ⟨List.take_left' e8, ?_, ?_, ?_⟩
  · rw [d8]
    exact List.take_left' e4
  · rw [show (12 : Nat) = 8 + 4 from rfl, ← List.drop_drop, d8]
    exact List.drop_left' e4
  · simp only [List.length_append]
    omega
/-- What is laid is read. -/
theorem bDec_enc {q : Nat} {l : List Opn} (h : bchk q l = 0) : bDec (bEnc q l) = (q, l, 0) := by
  obtain ⟨h1, h2, h3, h4⟩ := bEnc_parts h
  obtain ⟨hn, hq, _, hall⟩ := bchk_zero h
  unfold bDec
  rw [if_neg (by omega), h1, h2, h3, leNat_fxEnc, leNat_fxEnc, Nat.mod_eq_of_lt (by omega), Nat.mod_eq_of_lt (by omega), if_neg (by omega)]
  have := opsRead_enc l hall []
  rw [List.append_nil] at this
  rw [this]
  simp only
  rw [if_pos ⟨h, by trivial⟩]
/-- What is read was laid; else it is none. -/
theorem bDec_cases (bs : List UInt8) : (∃ q l, bchk q l = 0 ∧ bEnc q l = bs ∧ bDec bs = (q, l, 0)) ∨ ((∀ q l, bchk q l = 0 → bEnc q l ≠ bs) ∧ bDec bs = (0, [], 32)) := by
  by_cases h : ∃ q l, bchk q l = 0 ∧ bEnc q l = bs
  · obtain ⟨q, l, h1, rfl⟩ := h
    exact .inl ⟨q, l, h1, rfl, bDec_enc h1⟩
  · refine .inr ⟨fun q l h1 h2 => h ⟨q, l, h1, h2⟩, ?_⟩
    unfold bDec
    split
    · rfl
    · split
      · rfl
      · split
        · rfl
        · split
          · rename_i hx
            exact absurd ⟨_, _, hx⟩ h
          · rfl
theorem bEnc_inj {q r : Nat} {l m : List Opn} (h1 : bchk q l = 0) (h2 : bchk r m = 0) (h : bEnc q l = bEnc r m) : q = r ∧ l = m := by
  have e1 := bDec_enc h1
  rw [h, bDec_enc h2] at e1
  simp only [Prod.mk.injEq, and_true] at e1
  exact ⟨e1.1.symm, e1.2.symm⟩
theorem bDec_none {bs : List UInt8} (h : opsRead (leNat ((bs.drop 8).take 4)) (bs.drop 12) = none) : bDec bs = (0, [], 32) := by
  unfold bDec
  rw [h]
  split
  · rfl
  · split <;> rfl
theorem bDec_some {bs : List UInt8} {l : List Opn} (h1 : 12 ≤ bs.length) (h2 : leNat ((bs.drop 8).take 4) ≤ 64) (h : opsRead (leNat ((bs.drop 8).take 4)) (bs.drop 12) = some l) :
    bDec bs = if bchk (leNat (bs.take 8)) l = 0 ∧ bEnc (leNat (bs.take 8)) l = bs then (leNat (bs.take 8), l, 0) else (0, [], 32) := by
  unfold bDec
  rw [if_neg (by omega), if_neg (by omega), h]
theorem txtRead_le (bs : List UInt8) (h : (txtRead bs).2.2 = 0) : (txtRead bs).2.1 ≤ bs.length := by
  have hu := uvRead_ok bs
  unfold txtRead at h ⊢
  by_cases h1 : (uvRead bs).2.2 ≠ 0
  · rw [if_pos h1] at h
    exact absurd h h1
  · rw [if_neg h1] at h ⊢
    by_cases h2 : bs.length - (uvRead bs).2.1 < (uvRead bs).1
    · rw [if_pos h2] at h
      simp at h
    · rw [if_neg h2]
      simp only
      omega
/-- Reading goes on: from place p on, behind the operations L that were read. -/
def goesOn (bs : List UInt8) (N k p : Nat) (L : List Opn) : Prop := opsRead N (bs.drop 12) = (opsRead (N - k) (bs.drop p)).map (L ++ ·)
theorem goesOn_start (bs : List UInt8) (N : Nat) : goesOn bs N 0 12 [] := by unfold goesOn; simp
theorem goesOn_bad {bs : List UInt8} {N k p : Nat} {L : List Opn} (h : goesOn bs N k p L) (hk : k < N) (h0 : opRead (bs.drop p) = none) : opsRead N (bs.drop 12) = none := by
  unfold goesOn at h
  rw [h, show N - k = (N - (k + 1)) + 1 by omega, opsRead, h0]
  rfl
theorem goesOn_next {bs : List UInt8} {N k p p' : Nat} {L : List Opn} {o : Opn} (h : goesOn bs N k p L) (hk : k < N) (h0 : opRead (bs.drop p) = some (o, bs.drop p')) : goesOn bs N (k + 1) p' (L ++ [o]) := by
  unfold goesOn at h ⊢
  rw [h, show N - k = (N - (k + 1)) + 1 by omega, opsRead, h0]
  simp only
  cases opsRead (N - (k + 1)) (bs.drop p') with
  | none => rfl
  | some l => simp
theorem goesOn_end {bs : List UInt8} {N p : Nat} {L : List Opn} (h : goesOn bs N N p L) : opsRead N (bs.drop 12) = some L := by
  unfold goesOn at h
  rw [h, Nat.sub_self, opsRead]
  simp
theorem opRead_nil {bs : List UInt8} {p : Nat} (h : bs.length ≤ p) : opRead (bs.drop p) = none := by rw [List.drop_eq_nil_of_le h]; rfl
theorem opRead_key {bs : List UInt8} {p : Nat} (h : p < bs.length) (h1 : ¬ (txtRead (bs.drop (p + 1))).2.2 = 0) : opRead (bs.drop p) = none := by
  rw [drop_cons bs p h, opRead, if_neg h1]
theorem opRead_del {bs : List UInt8} {p : Nat} (h : p < bs.length) (h1 : (txtRead (bs.drop (p + 1))).2.2 = 0) (h2 : ¬ (bs.getD p 0).toNat = 1) :
    opRead (bs.drop p) = some (⟨((bs.getD p 0).toNat : Int), strOf (txtRead (bs.drop (p + 1))).1, ByteArray.empty⟩, bs.drop (p + 1 + (txtRead (bs.drop (p + 1))).2.1)) := by
  rw [drop_cons bs p h, opRead, if_pos h1, if_neg h2, List.drop_drop]
theorem opRead_val {bs : List UInt8} {p p1 : Nat} (h : p < bs.length) (h1 : (txtRead (bs.drop (p + 1))).2.2 = 0) (h2 : (bs.getD p 0).toNat = 1) (hp : p1 = p + 1 + (txtRead (bs.drop (p + 1))).2.1) (h3 : ¬ (txtRead (bs.drop p1)).2.2 = 0) : opRead (bs.drop p) = none := by
  subst hp
  rw [drop_cons bs p h, opRead, if_pos h1, if_pos h2, List.drop_drop, if_neg h3]
theorem opRead_put {bs : List UInt8} {p p1 : Nat} (h : p < bs.length) (h1 : (txtRead (bs.drop (p + 1))).2.2 = 0) (h2 : (bs.getD p 0).toNat = 1) (hp : p1 = p + 1 + (txtRead (bs.drop (p + 1))).2.1) (h3 : (txtRead (bs.drop p1)).2.2 = 0) :
    opRead (bs.drop p) = some (⟨1, strOf (txtRead (bs.drop (p + 1))).1, strOf (txtRead (bs.drop p1)).1⟩, bs.drop (p1 + (txtRead (bs.drop p1)).2.1)) := by
  subst hp
  rw [drop_cons bs p h, opRead, if_pos h1, if_pos h2, List.drop_drop, if_pos h3, List.drop_drop]
end Go.Proofs.Ytohhdbmkbfehfaa
