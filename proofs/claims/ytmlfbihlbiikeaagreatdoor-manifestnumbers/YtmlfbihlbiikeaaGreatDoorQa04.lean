/- Keys as bytes, by plain functions. -/
import Derived.Test.YtmlfbihlbiikeaaGreatDoorQa03
import Derived.WalkKit
namespace Go.Proofs.YtmlfbihlbiikeaaGreatDoor
def keyEnc (s : List UInt8) (q : Nat) (k : Int) : List UInt8 := if chk s.length q k = 0 then s ++ fxEnc (q * 256 + k.toNat) 8 else []
theorem keyEnc_yes {s : List UInt8} {q : Nat} {k : Int} (h : chk s.length q k = 0) : keyEnc s q k = s ++ fxEnc (q * 256 + k.toNat) 8 := by unfold keyEnc; rw [if_pos h]
theorem keyEnc_no {s : List UInt8} {q : Nat} {k : Int} (h : ¬ chk s.length q k = 0) : keyEnc s q k = [] := by unfold keyEnc; rw [if_neg h]
theorem chk_zero {n q : Nat} {k : Int} (h : chk n q k = 0) : n ≤ 64 ∧ q ≤ 72057594037927935 ∧ (k = 0 ∨ k = 1) := by
  unfold chk at h
  split at h
  · simp at h
  · split at h
    · simp at h
    · split at h
      · exact ⟨by omega, by omega, by assumption⟩
      · simp at h
theorem chk_mk {n q : Nat} {k : Int} (h1 : n ≤ 64) (h2 : q ≤ 72057594037927935) (h3 : k = 0 ∨ k = 1) : chk n q k = 0 := by
  unfold chk
  rw [if_neg (by omega), if_neg (by omega), if_pos h3]
def keyNum (bs : List UInt8) : Nat := leNat (bs.drop (bs.length - 8))
def keyOk (bs : List UInt8) : Bool := decide (8 ≤ bs.length) && (decide (bs.length ≤ 72) && decide (keyNum bs % 256 ≤ 1))
theorem keyOk_iff {bs : List UInt8} : keyOk bs = true ↔ 8 ≤ bs.length ∧ bs.length ≤ 72 ∧ keyNum bs % 256 ≤ 1 := by simp [keyOk]
def keyUser (bs : List UInt8) : List UInt8 := if keyOk bs then bs.take (bs.length - 8) else []
def keySeq (bs : List UInt8) : Nat := if keyOk bs then keyNum bs / 256 else 0
def keyKind (bs : List UInt8) : Nat := if keyOk bs then keyNum bs % 256 else 0
def keyErr (bs : List UInt8) : Nat := if keyOk bs then 0 else 20
theorem keyNum_lt (bs : List UInt8) : keyNum bs < 18446744073709551616 := leNat_lt64 _ (by simp; omega)
theorem fxEnc_le : ∀ (l : List UInt8) , fxEnc (leNat l) l.length = l := by
  have h : ∀ (l r : List UInt8), fxEnc (leNat (l ++ r)) l.length = l := by
    intro l
    induction l with
    | nil => intro r; rfl
    | cons c l ih =>
      intro r
      have hs : ∀ (n j : Nat), fxEnc n (j + 1) = loByte n :: fxEnc (n / 256) j := by
        intro n j
        induction j with
        | zero => simp [fxEnc]
        | succ j ihj =>
          rw [fxEnc, ihj, fxEnc, List.cons_append]
          congr 3
          rw [Nat.div_div_eq_div_mul, show (256 : Nat) * 2 ^ (8 * j) = 2 ^ (8 * (j + 1)) by rw [show 8 * (j + 1) = 8 + 8 * j by omega, Nat.pow_add]]
      rw [List.length_cons, hs]
      have hc := UInt8.toNat_lt c
      have e1 : leNat (c :: l ++ r) = c.toNat + 256 * leNat (l ++ r) := rfl
      rw [e1, show (c.toNat + 256 * leNat (l ++ r)) / 256 = leNat (l ++ r) by omega, ih r]
      congr 1
      apply UInt8.toNat_inj.1
      rw [loByte_toNat]
      omega
  intro l
  simpa using h l []
theorem keyNum_enc (s : List UInt8) (n : Nat) (h : n < 18446744073709551616) : keyNum (s ++ fxEnc n 8) = n := by
  unfold keyNum
  rw [List.length_append, fxEnc_length, Nat.add_sub_cancel, List.drop_left', leNat_fxEnc]
  · exact Nat.mod_eq_of_lt h
  · rfl
theorem key_back (s : List UInt8) (q : Nat) (k : Int) (h : chk s.length q k = 0) :
    keyUser (keyEnc s q k) = s ∧ keySeq (keyEnc s q k) = q ∧ ((keyKind (keyEnc s q k) : Nat) : Int) = k ∧ keyErr (keyEnc s q k) = 0 := by
  obtain ⟨h1, h2, h3⟩ := chk_zero h
  have hn : q * 256 + k.toNat < 18446744073709551616 := by omega
  have hk := keyNum_enc s _ hn
  have hok : keyOk (s ++ fxEnc (q * 256 + k.toNat) 8) = true := by
    rw [keyOk_iff, hk, List.length_append, fxEnc_length]
    omega
  rw [keyEnc_yes h]
  unfold keyUser keySeq keyKind keyErr
  rw [if_pos hok, if_pos hok, if_pos hok, if_pos hok, hk, List.length_append, fxEnc_length, Nat.add_sub_cancel]
  refine ⟨by simp, by omega, by omega, rfl⟩
theorem key_laid (bs : List UInt8) (h : keyOk bs = true) : chk (keyUser bs).length (keySeq bs) (keyKind bs) = 0 ∧ keyEnc (keyUser bs) (keySeq bs) (keyKind bs) = bs := by
  have hok := keyOk_iff.1 h
  have hlt := keyNum_lt bs
  have hc : chk (keyUser bs).length (keySeq bs) (keyKind bs) = 0 := by
    unfold keyUser keySeq keyKind
    rw [if_pos h, if_pos h, if_pos h]
    refine chk_mk ?_ ?_ ?_
    · simp; omega
    · omega
    · omega
  refine ⟨hc, ?_⟩
  rw [keyEnc_yes hc]
  unfold keyUser keySeq keyKind
  rw [if_pos h, if_pos h, if_pos h, show keyNum bs / 256 * 256 + ((keyNum bs % 256 : Nat) : Int).toNat = keyNum bs by omega]
  unfold keyNum
  have e := fxEnc_le (bs.drop (bs.length - 8))
  rw [show (bs.drop (bs.length - 8)).length = 8 by simp; omega] at e
  rw [e]
  simp
end Go.Proofs.YtmlfbihlbiikeaaGreatDoor
namespace Go.Proofs.YtmlfbihlbiikeaaGreatDoor
end Go.Proofs.YtmlfbihlbiikeaaGreatDoor
/- Keys stand in one line: what holds of the plain function that compares them. -/
namespace Go.Proofs.YtmlfbihlbiikeaaGreatDoor

theorem less_trans : ∀ (x y z : List UInt8), Op.bytesLess x y = true → Op.bytesLess y z = true → Op.bytesLess x z = true
  | _, [], _, h, _ => by simp [Op.bytesLess] at h
  | _, _ :: _, [], _, h => by simp [Op.bytesLess] at h
  | [], _ :: _, _ :: _, _, _ => by simp [Op.bytesLess]
  | a :: x, b :: y, c :: z, h1, h2 => by
    simp only [Op.bytesLess, Bool.or_eq_true, Bool.and_eq_true, decide_eq_true_eq, beq_iff_eq, UInt8.lt_iff_toNat_lt] at h1 h2 ⊢
    rcases h1 with h1 | ⟨rfl, h1⟩
    · rcases h2 with h2 | ⟨rfl, h2⟩
      · exact .inl (by omega)
      · exact .inl h1
    · rcases h2 with h2 | ⟨rfl, h2⟩
      · exact .inl h2
      · exact .inr ⟨rfl, less_trans x y z h1 h2⟩
theorem less_tri : ∀ (x y : List UInt8), Op.bytesLess x y = false → x = y ∨ Op.bytesLess y x = true
  | [], [], _ => .inl rfl
  | [], _ :: _, h => by simp [Op.bytesLess] at h
  | _ :: _, [], _ => .inr (by simp [Op.bytesLess])
  | a :: x, b :: y, h => by
    simp only [Op.bytesLess, Bool.or_eq_false_iff, Bool.and_eq_false_iff, decide_eq_false_iff_not, beq_eq_false_iff_ne, UInt8.lt_iff_toNat_lt] at h
    obtain ⟨h1, h2⟩ := h
    by_cases hab : a = b
    · subst hab
      rcases less_tri x y (by simpa using h2) with rfl | h3
      · exact .inl rfl
      · exact .inr (by simp [Op.bytesLess, h3])
    · refine .inr ?_
      have : a.toNat ≠ b.toNat := fun e => hab (UInt8.toNat_inj.1 e)
      simp only [Op.bytesLess, Bool.or_eq_true, decide_eq_true_eq, UInt8.lt_iff_toNat_lt]
      exact .inl (by omega)
theorem scmp_of_less {x y : List UInt8} (h : Op.bytesLess x y = true) : scmp x y = -1 := by unfold scmp; rw [if_pos h]
theorem icmp_spec (x y : Int) : (icmp x y = -1 ∧ x < y) ∨ (icmp x y = 0 ∧ x = y) ∨ (icmp x y = 1 ∧ y < x) := by
  unfold icmp
  split
  · exact .inl ⟨rfl, by assumption⟩
  · split
    · exact .inr (.inr ⟨rfl, by assumption⟩)
    · exact .inr (.inl ⟨rfl, by omega⟩)
theorem kcmp_spec (s t : List UInt8) (q r k l : Int) : (scmp s t ≠ 0 ∧ kcmp s t q r k l = scmp s t) ∨ (scmp s t = 0 ∧ r ≠ q ∧ kcmp s t q r k l = icmp r q) ∨ (scmp s t = 0 ∧ r = q ∧ kcmp s t q r k l = icmp l k) := by
  unfold kcmp
  by_cases h : scmp s t = 0
  · rw [if_neg (by simp [h])]
    by_cases h2 : icmp r q = 0
    · rw [if_neg (by simp [h2])]
      have := icmp_spec r q
      exact .inr (.inr ⟨h, by omega, rfl⟩)
    · rw [if_pos (by simp [h2])]
      have := icmp_spec r q
      exact .inr (.inl ⟨h, by omega, rfl⟩)
  · rw [if_pos (by simpa using h)]
    exact .inl ⟨h, rfl⟩
end Go.Proofs.YtmlfbihlbiikeaaGreatDoor
/- Entries that share beginnings, plainly: how they are laid and how they are read; no program is spoken of here. -/
namespace Go.Proofs.YtmlfbihlbiikeaaGreatDoor
set_option linter.unusedVariables false
set_option linter.unusedSimpArgs false
structure IK where
  user : ByteArray
  seq : Nat
  kind : Int
def IK.v (k : IK) : Value := .agg #[.string k.user, .int .u64 (k.seq : Int), .int .i64 k.kind]
def IK.err (k : IK) : Nat := chk k.user.size k.seq k.kind
def IK.enc (k : IK) : List UInt8 := keyEnc k.user.data.toList k.seq k.kind
def IK.cmp (a b : IK) : Int := kcmp a.user.toList b.user.toList (a.seq : Int) (b.seq : Int) a.kind b.kind
def decKey (bs : List UInt8) : IK := ⟨strOf (keyUser bs), keySeq bs, (keyKind bs : Int)⟩
section
variable {b ah : List UInt8} {n k m i v j er : Nat}
end
theorem ba_len (s : ByteArray) : s.data.toList.length = s.size := by rw [Array.length_toList]; rfl
theorem str_len (l : List UInt8) : (strOf l).size = l.length := by
  show l.toArray.size = l.length
  simp
theorem ba_eta (s : ByteArray) : strOf s.data.toList = s := by simp [strOf]
theorem IK.err_len {k : IK} (h : k.err = 0) : chk k.user.data.toList.length k.seq k.kind = 0 := by
  rw [ba_len]
  exact h
theorem decKey_enc {k : IK} (h : k.err = 0) : decKey k.enc = k := by
  obtain ⟨h1, h2, h3, _⟩ := key_back _ _ _ (IK.err_len h)
  unfold decKey IK.enc
  rw [h1, h2, h3, ba_eta]
theorem keyOk_enc {k : IK} (h : k.err = 0) : keyOk k.enc = true := by
  obtain ⟨_, _, _, h4⟩ := key_back _ _ _ (IK.err_len h)
  unfold keyErr at h4
  unfold IK.enc
  split at h4
  · assumption
  · omega
theorem enc_len {k : IK} (h : k.err = 0) : k.enc.length = k.user.size + 8 := by
  unfold IK.enc
  rw [keyEnc_yes (IK.err_len h), List.length_append, fxEnc_length, ba_len]
theorem err_le {k : IK} (h : k.err = 0) : k.user.size ≤ 64 := (chk_zero h).1
theorem decKey_ok {bs : List UInt8} (h : keyOk bs = true) : (decKey bs).err = 0 ∧ (decKey bs).enc = bs := by
  obtain ⟨h1, h2⟩ := key_laid bs h
  have := str_len (keyUser bs)
  refine ⟨?_, ?_⟩
  · unfold IK.err decKey
    simp only [this]
    exact h1
  · unfold IK.enc decKey
    simpa [strOf] using h2
end Go.Proofs.YtmlfbihlbiikeaaGreatDoor
/- A block's bytes, plainly: entries in stretches, the places of marks; what is laid, and what is read of it. -/
namespace Go.Proofs.YtmlfbihlbiikeaaGreatDoor
set_option linter.unusedVariables false
set_option linter.unusedSimpArgs false
end Go.Proofs.YtmlfbihlbiikeaaGreatDoor
/- What is laid is opened, and what is opened was laid: plainly. -/
namespace Go.Proofs.YtmlfbihlbiikeaaGreatDoor
set_option linter.unusedVariables false
set_option linter.unusedSimpArgs false
section
variable {iv : Nat} {ss : List (List UInt8)}
end
end Go.Proofs.YtmlfbihlbiikeaaGreatDoor
/- Which entry stands where in stretches; what is found: plainly. -/
namespace Go.Proofs.YtmlfbihlbiikeaaGreatDoor
set_option linter.unusedVariables false
set_option linter.unusedSimpArgs false
end Go.Proofs.YtmlfbihlbiikeaaGreatDoor
namespace Go.Proofs.YtmlfbihlbiikeaaGreatDoor
set_option linter.unusedVariables false
set_option linter.unusedSimpArgs false
structure PG where
  level : Int
  num : Nat
structure PF where
  level : Int
  num : Nat
  size : Int
  small : IK
  large : IK
structure PE where
  log : Nat
  next : Nat
  last : Nat
  dels : List PG
  adds : List PF
def gErr (l : Int) (n : Nat) : Nat := if l < 0 ∨ 4 ≤ l then 130 else if n < 1 ∨ 1099511627776 < n then 132 else 0
def PG.err (g : PG) : Nat := gErr g.level g.num
def PF.err (f : PF) : Nat :=
  if gErr f.level f.num ≠ 0 then gErr f.level f.num
  else if f.size < 1 ∨ 2147483647 < f.size then 132
  else if f.small.err ≠ 0 then f.small.err
  else if f.large.err ≠ 0 then f.large.err
  else if f.large.cmp f.small < 0 then 132 else 0
def errL {α : Type} (f : α → Nat) : List α → Nat
  | [] => 0
  | x :: r => if f x ≠ 0 then f x else errL f r
theorem errL_zero {α : Type} {f : α → Nat} : ∀ {l : List α}, errL f l = 0 ↔ ∀ x ∈ l, f x = 0
  | [] => by simp [errL]
  | x :: r => by
    have := errL_zero (f := f) (l := r)
    unfold errL
    by_cases h : f x ≠ 0
    · rw [if_pos h]
      simp [h]
    · rw [if_neg h, this]
      simp at h
      simp [h]
theorem errL_step {α : Type} {f : α → Nat} {l : List α} {k : Nat} (hk : k < l.length) : errL f (l.drop k) = if f l[k] ≠ 0 then f l[k] else errL f (l.drop (k + 1)) := by
  rw [List.drop_eq_getElem_cons hk, errL]
theorem errL_end {α : Type} {f : α → Nat} {l : List α} {k : Nat} (hk : l.length ≤ k) : errL f (l.drop k) = 0 := by
  rw [List.drop_eq_nil_of_le hk, errL]
def PE.err (x : PE) : Nat :=
  if 20000 < x.dels.length ∨ 100 < x.adds.length then 131
  else if 1099511627776 < x.log ∨ 1099511627776 < x.next then 132
  else if 72057594037927935 < x.last then 22
  else if errL PG.err x.dels ≠ 0 then errL PG.err x.dels
  else errL PF.err x.adds
def PG.enc (g : PG) : List UInt8 := uvEnc g.level.toNat ++ uvEnc g.num
def PF.enc (f : PF) : List UInt8 := uvEnc f.level.toNat ++ (uvEnc f.num ++ (uvEnc f.size.toNat ++ (txtPut f.small.enc ++ txtPut f.large.enc)))
def PE.enc (x : PE) : List UInt8 := uvEnc x.log ++ (uvEnc x.next ++ (uvEnc x.last ++ (uvEnc x.dels.length ++ (x.dels.flatMap PG.enc ++ (uvEnc x.adds.length ++ x.adds.flatMap PF.enc)))))
def PE.lay (x : PE) : List UInt8 := if x.err = 0 then x.enc else []
def numR (b : List UInt8) : Option (Nat × List UInt8) := if (uvRead b).2.2 = 0 then some ((uvRead b).1, b.drop (uvRead b).2.1) else none
def keyR (b : List UInt8) : Option (IK × List UInt8) := if (txtRead b).2.2 = 0 ∧ keyOk (txtRead b).1 = true then some (decKey (txtRead b).1, b.drop (txtRead b).2.1) else none
def toI (n : Nat) : Int := IntKind.i64.wrap (n : Int)
theorem toI_small {n : Nat} (h : n < 9223372036854775808) : toI n = (n : Int) := by
  unfold toI
  rw [IntKind.wrap_i64]
  omega
theorem numR_enc {n : Nat} (h : n < 18446744073709551616) (r : List UInt8) : numR (uvEnc n ++ r) = some (n, r) := by
  unfold numR
  rw [uvRead_enc n h]
  simp
theorem keyR_enc {k : IK} (h : k.err = 0) (r : List UInt8) : keyR (txtPut k.enc ++ r) = some (k, r) := by
  have hl := enc_len h
  have hu := err_le h
  unfold keyR
  rw [txtRead_put _ _ (by omega)]
  simp [keyOk_enc h, decKey_enc h]
def readL {α : Type} (f : List UInt8 → Option (α × List UInt8)) : Nat → List UInt8 → Option (List α × List UInt8)
  | 0, b => some ([], b)
  | n + 1, b => (f b).bind fun p => (readL f n p.2).map fun q => (p.1 :: q.1, q.2)
theorem readL_enc {α : Type} {f : List UInt8 → Option (α × List UInt8)} {enc : α → List UInt8} : ∀ (l : List α), (∀ x ∈ l, ∀ r, f (enc x ++ r) = some (x, r)) → ∀ r, readL f l.length (l.flatMap enc ++ r) = some (l, r)
  | [], _, r => rfl
  | x :: l, h, r => by
    have ih := readL_enc l (fun y hy => h y (by simp [hy])) r
    rw [List.length_cons, readL, List.flatMap_cons, List.append_assoc, h x (by simp)]
    simp [ih]
def Part {α : Type} (f : List UInt8 → Option (α × List UInt8)) (n : Nat) (b : List UInt8) (k : Nat) (acc : List α) (r : List UInt8) : Prop :=
  readL f n b = (readL f k r).map fun q => (acc ++ q.1, q.2)
theorem Part.start {α : Type} (f : List UInt8 → Option (α × List UInt8)) (n : Nat) (b : List UInt8) : Part f n b n [] b := by
  unfold Part
  cases readL f n b <;> simp
theorem Part.step {α : Type} {f : List UInt8 → Option (α × List UInt8)} {n k : Nat} {b r r' : List UInt8} {acc : List α} {x : α} (h : Part f n b (k + 1) acc r) (hx : f r = some (x, r')) : Part f n b k (acc ++ [x]) r' := by
  unfold Part at h ⊢
  rw [h, readL, hx, Option.bind_some]
  cases h2 : readL f k r' <;> simp
theorem Part.none {α : Type} {f : List UInt8 → Option (α × List UInt8)} {n k : Nat} {b r : List UInt8} {acc : List α} (h : Part f n b (k + 1) acc r) (hx : f r = none) : readL f n b = none := by
  unfold Part at h
  rw [h, readL, hx]
  rfl
theorem Part.done {α : Type} {f : List UInt8 → Option (α × List UInt8)} {n : Nat} {b r : List UInt8} {acc : List α} (h : Part f n b 0 acc r) : readL f n b = some (acc, r) := by
  unfold Part at h
  rw [h, readL]
  simp
def takeG (b : List UInt8) : Option (PG × List UInt8) := (numR b).bind fun p => (numR p.2).bind fun q => some (⟨toI p.1, q.1⟩, q.2)
def takeF (b : List UInt8) : Option (PF × List UInt8) := (takeG b).bind fun g => (numR g.2).bind fun s => (keyR s.2).bind fun a => (keyR a.2).bind fun c => some (⟨g.1.level, g.1.num, toI s.1, a.1, c.1⟩, c.2)
def cntR (lim : Nat) (b : List UInt8) : Option (Nat × List UInt8) := (numR b).bind fun p => if p.1 ≤ lim then some p else none
def takeE (b : List UInt8) : Option PE := (numR b).bind fun l => (numR l.2).bind fun n => (numR n.2).bind fun s => (cntR 20000 s.2).bind fun c => (readL takeG c.1 c.2).bind fun d => (cntR 100 d.2).bind fun m => (readL takeF m.1 m.2).bind fun a => some ⟨l.1, n.1, s.1, d.1, a.1⟩
def decE (b : List UInt8) : Option PE := (takeE b).bind fun x => if x.err = 0 ∧ x.enc = b then some x else none
def rlev (b : List UInt8) : Option (Int × List UInt8) := (numR b).bind fun p => if p.1 ≤ 4 then some ((p.1 : Int), p.2) else none
def rsize (b : List UInt8) : Option (Int × List UInt8) := (numR b).bind fun p => if p.1 ≤ 2147483648 then some ((p.1 : Int), p.2) else none
def rtakeG (b : List UInt8) : Option (PG × List UInt8) := (rlev b).bind fun p => (numR p.2).bind fun q => some (⟨p.1, q.1⟩, q.2)
def rtakeF (b : List UInt8) : Option (PF × List UInt8) := (rlev b).bind fun p => (numR p.2).bind fun q => (rsize q.2).bind fun s => (keyR s.2).bind fun a => (keyR a.2).bind fun c => some (⟨p.1, q.1, s.1, a.1, c.1⟩, c.2)
def rtakeE (b : List UInt8) : Option PE := (numR b).bind fun l => (numR l.2).bind fun n => (numR n.2).bind fun s => (numR s.2).bind fun c => (readL rtakeG (min c.1 20001) c.2).bind fun d => (numR d.2).bind fun m => (readL rtakeF (min m.1 101) m.2).bind fun a => some ⟨l.1, n.1, s.1, d.1, a.1⟩
theorem gErr_zero {l : Int} {n : Nat} (h : gErr l n = 0) : 0 ≤ l ∧ l < 4 ∧ 1 ≤ n ∧ n ≤ 1099511627776 := by
  unfold gErr at h
  split at h
  · omega
  · split at h <;> omega
theorem PF.err_zero {f : PF} (h : f.err = 0) : gErr f.level f.num = 0 ∧ 1 ≤ f.size ∧ f.size ≤ 2147483647 ∧ f.small.err = 0 ∧ f.large.err = 0 ∧ ¬ f.large.cmp f.small < 0 := by
  unfold PF.err at h
  split at h
  · omega
  · split at h
    · omega
    · split at h
      · omega
      · split at h
        · omega
        · split at h
          · omega
          · refine ⟨?_, ?_, ?_, ?_, ?_, ?_⟩ <;> first | omega | assumption
theorem PE.err_zero {x : PE} (h : x.err = 0) : x.dels.length ≤ 20000 ∧ x.adds.length ≤ 100 ∧ x.log ≤ 1099511627776 ∧ x.next ≤ 1099511627776 ∧ x.last ≤ 72057594037927935 ∧ (∀ g ∈ x.dels, g.err = 0) ∧ (∀ f ∈ x.adds, f.err = 0) := by
  unfold PE.err at h
  split at h
  · omega
  · split at h
    · omega
    · split at h
      · omega
      · split at h
        · omega
        · rename_i h1 h2 h3 h4
          exact ⟨by omega, by omega, by omega, by omega, by omega, errL_zero.1 (by omega), errL_zero.1 h⟩
theorem takeG_enc {g : PG} (h : g.err = 0) (r : List UInt8) : takeG (g.enc ++ r) = some (g, r) ∧ rtakeG (g.enc ++ r) = some (g, r) := by
  obtain ⟨h1, h2, h3, h4⟩ := gErr_zero h
  obtain ⟨l, n⟩ := g
  simp only at h1 h2 h3 h4
  have e1 := numR_enc (n := l.toNat) (by omega) (uvEnc n ++ r)
  have e2 := numR_enc (n := n) (by omega) r
  have e3 : ((l.toNat : Nat) : Int) = l := by omega
  unfold takeG rtakeG rlev PG.enc
  simp only [List.append_assoc, e1, Option.bind_some, e2]
  rw [if_pos (by omega), toI_small (by omega), e3]
  simp [e2]
theorem takeF_enc {f : PF} (h : f.err = 0) (r : List UInt8) : takeF (f.enc ++ r) = some (f, r) ∧ rtakeF (f.enc ++ r) = some (f, r) := by
  obtain ⟨h0, h5, h6, h7, h8, h9⟩ := PF.err_zero h
  obtain ⟨h1, h2, h3, h4⟩ := gErr_zero h0
  obtain ⟨l, n, s, a, c⟩ := f
  simp only at h1 h2 h3 h4 h5 h6 h7 h8 h9
  have e1 := numR_enc (n := l.toNat) (by omega) (uvEnc n ++ (uvEnc s.toNat ++ (txtPut a.enc ++ (txtPut c.enc ++ r))))
  have e2 := numR_enc (n := n) (by omega) (uvEnc s.toNat ++ (txtPut a.enc ++ (txtPut c.enc ++ r)))
  have e3 := numR_enc (n := s.toNat) (by omega) (txtPut a.enc ++ (txtPut c.enc ++ r))
  have e4 := keyR_enc h7 (txtPut c.enc ++ r)
  have e5 := keyR_enc h8 r
  have e6 : ((l.toNat : Nat) : Int) = l := by omega
  have e7 : ((s.toNat : Nat) : Int) = s := by omega
  unfold takeF takeG rtakeF rlev rsize PF.enc
  simp only [List.append_assoc, e1, Option.bind_some, e2, e3, e4, e5]
  rw [if_pos (by omega), toI_small (by omega), toI_small (by omega), e6, e7]
  simp only [Option.bind_some, e2, e3]
  rw [if_pos (by omega)]
  simp [e4, e5, e7]
theorem takeE_enc {x : PE} (h : x.err = 0) : takeE x.enc = some x ∧ rtakeE x.enc = some x := by
  obtain ⟨h1, h2, h3, h4, h5, h6, h7⟩ := PE.err_zero h
  have d1 := readL_enc (f := takeG) (enc := PG.enc) x.dels (fun g hg r => (takeG_enc (h6 g hg) r).1) (uvEnc x.adds.length ++ x.adds.flatMap PF.enc)
  have d2 := readL_enc (f := rtakeG) (enc := PG.enc) x.dels (fun g hg r => (takeG_enc (h6 g hg) r).2) (uvEnc x.adds.length ++ x.adds.flatMap PF.enc)
  have a1 := readL_enc (f := takeF) (enc := PF.enc) x.adds (fun g hg r => (takeF_enc (h7 g hg) r).1) []
  have a2 := readL_enc (f := rtakeF) (enc := PF.enc) x.adds (fun g hg r => (takeF_enc (h7 g hg) r).2) []
  rw [List.append_nil] at a1 a2
  unfold takeE rtakeE PE.enc cntR
  have e1 := numR_enc (n := x.log) (by omega) (uvEnc x.next ++ (uvEnc x.last ++ (uvEnc x.dels.length ++ (x.dels.flatMap PG.enc ++ (uvEnc x.adds.length ++ x.adds.flatMap PF.enc)))))
  have e2 := numR_enc (n := x.next) (by omega) (uvEnc x.last ++ (uvEnc x.dels.length ++ (x.dels.flatMap PG.enc ++ (uvEnc x.adds.length ++ x.adds.flatMap PF.enc))))
  have e3 := numR_enc (n := x.last) (by omega) (uvEnc x.dels.length ++ (x.dels.flatMap PG.enc ++ (uvEnc x.adds.length ++ x.adds.flatMap PF.enc)))
  have e4 := numR_enc (n := x.dels.length) (by omega) (x.dels.flatMap PG.enc ++ (uvEnc x.adds.length ++ x.adds.flatMap PF.enc))
  have e5 := numR_enc (n := x.adds.length) (by omega) (x.adds.flatMap PF.enc)
  simp only [e1, e2, e3, e4, Option.bind_some]
  rw [if_pos h1, Nat.min_eq_left (by omega)]
  simp only [Option.bind_some, d1, d2, e5]
  rw [if_pos h2, Nat.min_eq_left (by omega)]
  simp only [Option.bind_some, a1, a2]
  exact ⟨trivial, trivial⟩
theorem decE_iff {b : List UInt8} {x : PE} : decE b = some x ↔ x.err = 0 ∧ x.enc = b := by
  constructor
  · intro h
    unfold decE at h
    cases ht : takeE b with
    | none => rw [ht] at h; cases h
    | some y =>
      rw [ht, Option.bind_some] at h
      split at h
      · obtain rfl := Option.some.inj h
        assumption
      · cases h
  · rintro ⟨h1, rfl⟩
    unfold decE
    rw [(takeE_enc h1).1, Option.bind_some, if_pos ⟨h1, rfl⟩]
end Go.Proofs.YtmlfbihlbiikeaaGreatDoor
