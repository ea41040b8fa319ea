/- Edits, plainly: what is wrong with one, its bytes, and how bytes are read, by the program and by the document; no program is spoken of here. -/
import Derived.Test.YtcdfgcjecmpjhaaC11PlainA
namespace Go.Proofs.Ytcdfgcjecmpjhaa
set_option linter.unusedVariables false
set_option linter.unusedSimpArgs false
structure PG where
  level : Int
  num : Nat
structure PF where
  level : Int
  num : Nat
  size : Int
  small : IK
  large : IK
structure PE where
  log : Nat
  next : Nat
  last : Nat
  dels : List PG
  adds : List PF
def gErr (l : Int) (n : Nat) : Nat := if l < 0 ∨ 4 ≤ l then 130 else if n < 1 ∨ 1099511627776 < n then 132 else 0
def PG.err (g : PG) : Nat := gErr g.level g.num
def PF.err (f : PF) : Nat :=
  if gErr f.level f.num ≠ 0 then gErr f.level f.num
  else if f.size < 1 ∨ 2147483647 < f.size then 132
  else if f.small.err ≠ 0 then f.small.err
  else if f.large.err ≠ 0 then f.large.err
  else if f.large.cmp f.small < 0 then 132 else 0
/-- The first error of several. -/
def errL {α : Type} (f : α → Nat) : List α → Nat
  | [] => 0
  | x :: r => if f x ≠ 0 then f x else errL f r
theorem errL_zero {α : Type} {f : α → Nat} : ∀ {l : List α}, errL f l = 0 ↔ ∀ x ∈ l, f x = 0
  | [] => by simp [errL]
  | x :: r => by
    have := errL_zero (f := f) (l := r)
    unfold errL
    by_cases h : f x ≠ 0
    · rw [if_pos h]
      simp [h]
    · rw [if_neg h, this]
      simp at h
      simp [h]
theorem errL_step {α : Type} {f : α → Nat} {l : List α} {k : Nat} (hk : k < l.length) : errL f (l.drop k) = if f l[k] ≠ 0 then f l[k] else errL f (l.drop (k + 1)) := by
  rw [List.drop_eq_getElem_cons hk, errL]
theorem errL_end {α : Type} {f : α → Nat} {l : List α} {k : Nat} (hk : l.length ≤ k) : errL f (l.drop k) = 0 := by
  rw [List.drop_eq_nil_of_le hk, errL]
def PE.err (x : PE) : Nat :=
  if 20000 < x.dels.length ∨ 100 < x.adds.length then 131
  else if 1099511627776 < x.log ∨ 1099511627776 < x.next then 132
  else if 72057594037927935 < x.last then 22
  else if errL PG.err x.dels ≠ 0 then errL PG.err x.dels
  else errL PF.err x.adds
def PG.enc (g : PG) : List UInt8 := uvEnc g.level.toNat ++ uvEnc g.num
def PF.enc (f : PF) : List UInt8 := uvEnc f.level.toNat ++ (uvEnc f.num ++ (uvEnc f.size.toNat ++ (txtPut f.small.enc ++ txtPut f.large.enc)))
def PE.enc (x : PE) : List UInt8 := uvEnc x.log ++ (uvEnc x.next ++ (uvEnc x.last ++ (uvEnc x.dels.length ++ (x.dels.flatMap PG.enc ++ (uvEnc x.adds.length ++ x.adds.flatMap PF.enc)))))
/-- What Encode answers. -/
def PE.lay (x : PE) : List UInt8 := if x.err = 0 then x.enc else []
/-- A number that bytes begin with, and what is behind it. -/
def numR (b : List UInt8) : Option (Nat × List UInt8) := if (uvRead b).2.2 = 0 then some ((uvRead b).1, b.drop (uvRead b).2.1) else none
def keyR (b : List UInt8) : Option (IK × List UInt8) := if (txtRead b).2.2 = 0 ∧ keyOk (txtRead b).1 = true then some (decKey (txtRead b).1, b.drop (txtRead b).2.1) else none
def toI (n : Nat) : Int := IntKind.i64.wrap (n : Int)
theorem toI_small {n : Nat} (h : n < 9223372036854775808) : toI n = (n : Int) := by
  unfold toI
  rw [IntKind.wrap_i64]
  omega
theorem numR_enc {n : Nat} (h : n < 18446744073709551616) (r : List UInt8) : numR (uvEnc n ++ r) = some (n, r) := by
  unfold numR
  rw [uvRead_enc n h]
  simp
theorem keyR_enc {k : IK} (h : k.err = 0) (r : List UInt8) : keyR (txtPut k.enc ++ r) = some (k, r) := by
  have hl := enc_len h
  have hu := err_le h
  unfold keyR
  rw [txtRead_put _ _ (by omega)]
  simp [keyOk_enc h, decKey_enc h]
def readL {α : Type} (f : List UInt8 → Option (α × List UInt8)) : Nat → List UInt8 → Option (List α × List UInt8)
  | 0, b => some ([], b)
  | n + 1, b => (f b).bind fun p => (readL f n p.2).map fun q => (p.1 :: q.1, q.2)
theorem readL_enc {α : Type} {f : List UInt8 → Option (α × List UInt8)} {enc : α → List UInt8} : ∀ (l : List α), (∀ x ∈ l, ∀ r, f (enc x ++ r) = some (x, r)) → ∀ r, readL f l.length (l.flatMap enc ++ r) = some (l, r)
  | [], _, r => rfl
  | x :: l, h, r => by
    have ih := readL_enc l (fun y hy => h y (by simp [hy])) r
    rw [List.length_cons, readL, List.flatMap_cons, List.append_assoc, h x (by simp)]
    simp [ih]
/-- What was read of a row, and how many are left to be read. -/
def Part {α : Type} (f : List UInt8 → Option (α × List UInt8)) (n : Nat) (b : List UInt8) (k : Nat) (acc : List α) (r : List UInt8) : Prop :=
  readL f n b = (readL f k r).map fun q => (acc ++ q.1, q.2)
theorem Part.start {α : Type} (f : List UInt8 → Option (α × List UInt8)) (n : Nat) (b : List UInt8) : Part f n b n [] b := by
  unfold Part
  cases readL f n b <;> simp
theorem Part.step {α : Type} {f : List UInt8 → Option (α × List UInt8)} {n k : Nat} {b r r' : List UInt8} {acc : List α} {x : α} (h : Part f n b (k + 1) acc r) (hx : f r = some (x, r')) : Part f n b k (acc ++ [x]) r' := by
  unfold Part at h ⊢
  rw [h, readL, hx, Option.bind_some]
  cases h2 : readL f k r' <;> simp
theorem Part.none {α : Type} {f : List UInt8 → Option (α × List UInt8)} {n k : Nat} {b r : List UInt8} {acc : List α} (h : Part f n b (k + 1) acc r) (hx : f r = none) : readL f n b = none := by
  unfold Part at h
  rw [h, readL, hx]
  rfl
theorem Part.done {α : Type} {f : List UInt8 → Option (α × List UInt8)} {n : Nat} {b r : List UInt8} {acc : List α} (h : Part f n b 0 acc r) : readL f n b = some (acc, r) := by
  unfold Part at h
  rw [h, readL]
  simp
/-- How the program reads. -/
def takeG (b : List UInt8) : Option (PG × List UInt8) := (numR b).bind fun p => (numR p.2).bind fun q => some (⟨toI p.1, q.1⟩, q.2)
def takeF (b : List UInt8) : Option (PF × List UInt8) := (takeG b).bind fun g => (numR g.2).bind fun s => (keyR s.2).bind fun a => (keyR a.2).bind fun c => some (⟨g.1.level, g.1.num, toI s.1, a.1, c.1⟩, c.2)
def cntR (lim : Nat) (b : List UInt8) : Option (Nat × List UInt8) := (numR b).bind fun p => if p.1 ≤ lim then some p else none
def takeE (b : List UInt8) : Option PE := (numR b).bind fun l => (numR l.2).bind fun n => (numR n.2).bind fun s => (cntR 20000 s.2).bind fun c => (readL takeG c.1 c.2).bind fun d => (cntR 100 d.2).bind fun m => (readL takeF m.1 m.2).bind fun a => some ⟨l.1, n.1, s.1, d.1, a.1⟩
/-- The edit that bytes are. -/
def decE (b : List UInt8) : Option PE := (takeE b).bind fun x => if x.err = 0 ∧ x.enc = b then some x else none
/-- How the document reads. -/
def rlev (b : List UInt8) : Option (Int × List UInt8) := (numR b).bind fun p => if p.1 ≤ 4 then some ((p.1 : Int), p.2) else none
def rsize (b : List UInt8) : Option (Int × List UInt8) := (numR b).bind fun p => if p.1 ≤ 2147483648 then some ((p.1 : Int), p.2) else none
def rtakeG (b : List UInt8) : Option (PG × List UInt8) := (rlev b).bind fun p => (numR p.2).bind fun q => some (⟨p.1, q.1⟩, q.2)
def rtakeF (b : List UInt8) : Option (PF × List UInt8) := (rlev b).bind fun p => (numR p.2).bind fun q => (rsize q.2).bind fun s => (keyR s.2).bind fun a => (keyR a.2).bind fun c => some (⟨p.1, q.1, s.1, a.1, c.1⟩, c.2)
def rtakeE (b : List UInt8) : Option PE := (numR b).bind fun l => (numR l.2).bind fun n => (numR n.2).bind fun s => (numR s.2).bind fun c => (readL rtakeG (min c.1 20001) c.2).bind fun d => (numR d.2).bind fun m => (readL rtakeF (min m.1 101) m.2).bind fun a => some ⟨l.1, n.1, s.1, d.1, a.1⟩
def rdecE (b : List UInt8) : Option PE := (rtakeE b).bind fun x => if x.err = 0 ∧ x.enc = b then some x else none
theorem gErr_zero {l : Int} {n : Nat} (h : gErr l n = 0) : 0 ≤ l ∧ l < 4 ∧ 1 ≤ n ∧ n ≤ 1099511627776 := by
  unfold gErr at h
  split at h
  · omega
  · split at h <;> omega
theorem PF.err_zero {f : PF} (h : f.err = 0) : gErr f.level f.num = 0 ∧ 1 ≤ f.size ∧ f.size ≤ 2147483647 ∧ f.small.err = 0 ∧ f.large.err = 0 ∧ ¬ f.large.cmp f.small < 0 := by
  unfold PF.err at h
  split at h
  · omega
  · split at h
    · omega
    · split at h
      · omega
      · split at h
        · omega
        · split at h
          · omega
          · refine ⟨?_, ?_, ?_, ?_, ?_, ?_⟩ <;> first | omega | assumption
theorem PE.err_zero {x : PE} (h : x.err = 0) : x.dels.length ≤ 20000 ∧ x.adds.length ≤ 100 ∧ x.log ≤ 1099511627776 ∧ x.next ≤ 1099511627776 ∧ x.last ≤ 72057594037927935 ∧ (∀ g ∈ x.dels, g.err = 0) ∧ (∀ f ∈ x.adds, f.err = 0) := by
  unfold PE.err at h
  split at h
  · omega
  · split at h
    · omega
    · split at h
      · omega
      · split at h
        · omega
        · rename_i h1 h2 h3 h4
          exact ⟨by omega, by omega, by omega, by omega, by omega, errL_zero.1 (by omega), errL_zero.1 h⟩
theorem takeG_enc {g : PG} (h : g.err = 0) (r : List UInt8) : takeG (g.enc ++ r) = some (g, r) ∧ rtakeG (g.enc ++ r) = some (g, r) := by
  obtain ⟨h1, h2, h3, h4⟩ := gErr_zero h
  obtain ⟨l, n⟩ := g
  simp only at h1 h2 h3 h4
  have e1 := numR_enc (n := l.toNat) (by omega) (uvEnc n ++ r)
  have e2 := numR_enc (n := n) (by omega) r
  have e3 : ((l.toNat : Nat) : Int) = l := by omega
  unfold takeG rtakeG rlev PG.enc
  simp only [List.append_assoc, e1, Option.bind_some, e2]
  rw [if_pos (by omega), toI_small (by omega), e3]
  simp [e2]
theorem takeF_enc {f : PF} (h : f.err = 0) (r : List UInt8) : takeF (f.enc ++ r) = some (f, r) ∧ rtakeF (f.enc ++ r) = some (f, r) := by
  obtain ⟨h0, h5, h6, h7, h8, h9⟩ := PF.err_zero h
  obtain ⟨h1, h2, h3, h4⟩ := gErr_zero h0
  obtain ⟨l, n, s, a, c⟩ := f
  simp only at h1 h2 h3 h4 h5 h6 h7 h8 h9
  have e1 := numR_enc (n := l.toNat) (by omega) (uvEnc n ++ (uvEnc s.toNat ++ (txtPut a.enc ++ (txtPut c.enc ++ r))))
  have e2 := numR_enc (n := n) (by omega) (uvEnc s.toNat ++ (txtPut a.enc ++ (txtPut c.enc ++ r)))
  have e3 := numR_enc (n := s.toNat) (by omega) (txtPut a.enc ++ (txtPut c.enc ++ r))
  have e4 := keyR_enc h7 (txtPut c.enc ++ r)
  have e5 := keyR_enc h8 r
  have e6 : ((l.toNat : Nat) : Int) = l := by omega
  have e7 : ((s.toNat : Nat) : Int) = s := by omega
  unfold takeF takeG rtakeF rlev rsize PF.enc
  simp only [List.append_assoc, e1, Option.bind_some, e2, e3, e4, e5]
  rw [if_pos (by omega), toI_small (by omega), toI_small (by omega), e6, e7]
  simp only [Option.bind_some, e2, e3]
  rw [if_pos (by omega)]
  simp [e4, e5, e7]
theorem takeE_enc {x : PE} (h : x.err = 0) : takeE x.enc = some x ∧ rtakeE x.enc = some x := by
  obtain ⟨h1, h2, h3, h4, h5, h6, h7⟩ := PE.err_zero h
  have d1 := readL_enc (f := takeG) (enc := PG.enc) x.dels (fun g hg r => (takeG_enc (h6 g hg) r).1) (uvEnc x.adds.length ++ x.adds.flatMap PF.enc)
  have d2 := readL_enc (f := rtakeG) (enc := PG.enc) x.dels (fun g hg r => (takeG_enc (h6 g hg) r).2) (uvEnc x.adds.length ++ x.adds.flatMap PF.enc)
  have a1 := readL_enc (f := takeF) (enc := PF.enc) x.adds (fun g hg r => (takeF_enc (h7 g hg) r).1) []
  have a2 := readL_enc (f := rtakeF) (enc := PF.enc) x.adds (fun g hg r => (takeF_enc (h7 g hg) r).2) []
  rw [List.append_nil] at a1 a2
  unfold takeE rtakeE PE.enc cntR
  have e1 := numR_enc (n := x.log) (by omega) (uvEnc x.next ++ (uvEnc x.last ++ (uvEnc x.dels.length ++ (x.dels.flatMap PG.enc ++ (uvEnc x.adds.length ++ x.adds.flatMap PF.enc)))))
  have e2 := numR_enc (n := x.next) (by omega) (uvEnc x.last ++ (uvEnc x.dels.length ++ (x.dels.flatMap PG.enc ++ (uvEnc x.adds.length ++ x.adds.flatMap PF.enc))))
  have e3 := numR_enc (n := x.last) (by omega) (uvEnc x.dels.length ++ (x.dels.flatMap PG.enc ++ (uvEnc x.adds.length ++ x.adds.flatMap PF.enc)))
  have e4 := numR_enc (n := x.dels.length) (by omega) (x.dels.flatMap PG.enc ++ (uvEnc x.adds.length ++ x.adds.flatMap PF.enc))
  have e5 := numR_enc (n := x.adds.length) (by omega) (x.adds.flatMap PF.enc)
  simp only [e1, e2, e3, e4, Option.bind_some]
  rw [if_pos h1, Nat.min_eq_left (by omega)]
  simp only [Option.bind_some, d1, d2, e5]
  rw [if_pos h2, Nat.min_eq_left (by omega)]
  simp only [Option.bind_some, a1, a2]
  exact ⟨trivial, trivial⟩
theorem decE_iff {b : List UInt8} {x : PE} : decE b = some x ↔ x.err = 0 ∧ x.enc = b := by
  constructor
  · intro h
    unfold decE at h
    cases ht : takeE b with
    | none => rw [ht] at h; cases h
    | some y =>
      rw [ht, Option.bind_some] at h
      split at h
      · obtain rfl := Option.some.inj h
        assumption
      · cases h
  · rintro ⟨h1, rfl⟩
    unfold decE
    rw [(takeE_enc h1).1, Option.bind_some, if_pos ⟨h1, rfl⟩]
theorem rdecE_iff {b : List UInt8} {x : PE} : rdecE b = some x ↔ x.err = 0 ∧ x.enc = b := by
  constructor
  · intro h
    unfold rdecE at h
    cases ht : rtakeE b with
    | none => rw [ht] at h; cases h
    | some y =>
      rw [ht, Option.bind_some] at h
      split at h
      · obtain rfl := Option.some.inj h
        assumption
      · cases h
  · rintro ⟨h1, rfl⟩
    unfold rdecE
    rw [(takeE_enc h1).2, Option.bind_some, if_pos ⟨h1, rfl⟩]
theorem rdecE_eq (b : List UInt8) : rdecE b = decE b := by
  cases h : decE b with
  | some x => exact rdecE_iff.2 (decE_iff.1 h)
  | none =>
    cases h2 : rdecE b with
    | none => rfl
    | some y =>
      rw [decE_iff.2 (rdecE_iff.1 h2)] at h
      cases h
end Go.Proofs.Ytcdfgcjecmpjhaa
