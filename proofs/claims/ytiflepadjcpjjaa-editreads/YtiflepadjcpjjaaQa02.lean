/- Edits, plainly: what is wrong with one, its bytes, and how bytes are read, by the program and by the document; no program is spoken of here. -/
import Derived.Test.YtiflepadjcpjjaaC11PlainA
import Derived.Test.YtiflepadjcpjjaaChecked
import Derived.Test.YtiflepadjcpjjaaQa00
import Derived.Lib.AppendStr
import Derived.Laws.AppendOwnNone
namespace Go.Proofs.Ytiflepadjcpjjaa
set_option linter.unusedVariables false
set_option linter.unusedSimpArgs false
structure PG where
  level : Int
  num : Nat
structure PF where
  level : Int
  num : Nat
  size : Int
  small : IK
  large : IK
structure PE where
  log : Nat
  next : Nat
  last : Nat
  dels : List PG
  adds : List PF
def gErr (l : Int) (n : Nat) : Nat := if l < 0 ∨ 4 ≤ l then 130 else if n < 1 ∨ 1099511627776 < n then 132 else 0
def PG.err (g : PG) : Nat := gErr g.level g.num
def PF.err (f : PF) : Nat :=
  if gErr f.level f.num ≠ 0 then gErr f.level f.num
  else if f.size < 1 ∨ 2147483647 < f.size then 132
  else if f.small.err ≠ 0 then f.small.err
  else if f.large.err ≠ 0 then f.large.err
  else if f.large.cmp f.small < 0 then 132 else 0
/-- The first error of several. -/
def errL {α : Type} (f : α → Nat) : List α → Nat
  | [] => 0
  | x :: r => if f x ≠ 0 then f x else errL f r
theorem errL_zero {α : Type} {f : α → Nat} : ∀ {l : List α}, errL f l = 0 ↔ ∀ x ∈ l, f x = 0
  | [] => by simp [errL]
  | x :: r => by
    have := errL_zero (f := f) (l := r)
    unfold errL
    by_cases h : f x ≠ 0
    · rw [if_pos h]
      simp [h]
    · rw [if_neg h, this]
      simp at h
      simp [h]
theorem errL_step {α : Type} {f : α → Nat} {l : List α} {k : Nat} (hk : k < l.length) : errL f (l.drop k) = if f l[k] ≠ 0 then f l[k] else errL f (l.drop (k + 1)) := by
  rw [List.drop_eq_getElem_cons hk, errL]
theorem errL_end {α : Type} {f : α → Nat} {l : List α} {k : Nat} (hk : l.length ≤ k) : errL f (l.drop k) = 0 := by
  rw [List.drop_eq_nil_of_le hk, errL]
def PE.err (x : PE) : Nat :=
  if 20000 < x.dels.length ∨ 100 < x.adds.length then 131
  else if 1099511627776 < x.log ∨ 1099511627776 < x.next then 132
  else if 72057594037927935 < x.last then 22
  else if errL PG.err x.dels ≠ 0 then errL PG.err x.dels
  else errL PF.err x.adds
def PG.enc (g : PG) : List UInt8 := uvEnc g.level.toNat ++ uvEnc g.num
def PF.enc (f : PF) : List UInt8 := uvEnc f.level.toNat ++ (uvEnc f.num ++ (uvEnc f.size.toNat ++ (txtPut f.small.enc ++ txtPut f.large.enc)))
def PE.enc (x : PE) : List UInt8 := uvEnc x.log ++ (uvEnc x.next ++ (uvEnc x.last ++ (uvEnc x.dels.length ++ (x.dels.flatMap PG.enc ++ (uvEnc x.adds.length ++ x.adds.flatMap PF.enc)))))
/-- What Encode answers. -/
def PE.lay (x : PE) : List UInt8 := if x.err = 0 then x.enc else []
/-- A number that bytes begin with, and what is behind it. -/
def numR (b : List UInt8) : Option (Nat × List UInt8) := if (uvRead b).2.2 = 0 then some ((uvRead b).1, b.drop (uvRead b).2.1) else none
def keyR (b : List UInt8) : Option (IK × List UInt8) := if (txtRead b).2.2 = 0 ∧ keyOk (txtRead b).1 = true then some (decKey (txtRead b).1, b.drop (txtRead b).2.1) else none
def toI (n : Nat) : Int := IntKind.i64.wrap (n : Int)
theorem toI_small {n : Nat} (h : n < 9223372036854775808) : toI n = (n : Int) := by
  unfold toI
  rw [IntKind.wrap_i64]
  omega
theorem numR_enc {n : Nat} (h : n < 18446744073709551616) (r : List UInt8) : numR (uvEnc n ++ r) = some (n, r) := by
  unfold numR
  rw [uvRead_enc n h]
  simp
theorem keyR_enc {k : IK} (h : k.err = 0) (r : List UInt8) : keyR (txtPut k.enc ++ r) = some (k, r) := by
  have hl := enc_len h
  have hu := err_le h
  unfold keyR
  rw [txtRead_put _ _ (by omega)]
  simp [keyOk_enc h, decKey_enc h]
def readL {α : Type} (f : List UInt8 → Option (α × List UInt8)) : Nat → List UInt8 → Option (List α × List UInt8)
  | 0, b => some ([], b)
  | n + 1, b => (f b).bind fun p => (readL f n p.2).map fun q => (p.1 :: q.1, q.2)
theorem readL_enc {α : Type} {f : List UInt8 → Option (α × List UInt8)} {enc : α → List UInt8} : ∀ (l : List α), (∀ x ∈ l, ∀ r, f (enc x ++ r) = some (x, r)) → ∀ r, readL f l.length (l.flatMap enc ++ r) = some (l, r)
  | [], _, r => rfl
  | x :: l, h, r => by
    have ih := readL_enc l (fun y hy => h y (by simp [hy])) r
    rw [List.length_cons, readL, List.flatMap_cons, List.append_assoc, h x (by simp)]
    simp [ih]
/-- What was read of a row, and how many are left to be read. -/
def Part {α : Type} (f : List UInt8 → Option (α × List UInt8)) (n : Nat) (b : List UInt8) (k : Nat) (acc : List α) (r : List UInt8) : Prop :=
  readL f n b = (readL f k r).map fun q => (acc ++ q.1, q.2)
theorem Part.start {α : Type} (f : List UInt8 → Option (α × List UInt8)) (n : Nat) (b : List UInt8) : Part f n b n [] b := by
  unfold Part
  cases readL f n b <;> simp
theorem Part.step {α : Type} {f : List UInt8 → Option (α × List UInt8)} {n k : Nat} {b r r' : List UInt8} {acc : List α} {x : α} (h : Part f n b (k + 1) acc r) (hx : f r = some (x, r')) : Part f n b k (acc ++ [x]) r' := by
  unfold Part at h ⊢
  rw [h, readL, hx, Option.bind_some]
  cases h2 : readL f k r' <;> simp
theorem Part.none {α : Type} {f : List UInt8 → Option (α × List UInt8)} {n k : Nat} {b r : List UInt8} {acc : List α} (h : Part f n b (k + 1) acc r) (hx : f r = none) : readL f n b = none := by
  unfold Part at h
  rw [h, readL, hx]
  rfl
theorem Part.done {α : Type} {f : List UInt8 → Option (α × List UInt8)} {n : Nat} {b r : List UInt8} {acc : List α} (h : Part f n b 0 acc r) : readL f n b = some (acc, r) := by
  unfold Part at h
  rw [h, readL]
  simp
/-- How the program reads. -/
def takeG (b : List UInt8) : Option (PG × List UInt8) := (numR b).bind fun p => (numR p.2).bind fun q => some (⟨toI p.1, q.1⟩, q.2)
def takeF (b : List UInt8) : Option (PF × List UInt8) := (takeG b).bind fun g => (numR g.2).bind fun s => (keyR s.2).bind fun a => (keyR a.2).bind fun c => some (⟨g.1.level, g.1.num, toI s.1, a.1, c.1⟩, c.2)
def cntR (lim : Nat) (b : List UInt8) : Option (Nat × List UInt8) := (numR b).bind fun p => if p.1 ≤ lim then some p else none
def takeE (b : List UInt8) : Option PE := (numR b).bind fun l => (numR l.2).bind fun n => (numR n.2).bind fun s => (cntR 20000 s.2).bind fun c => (readL takeG c.1 c.2).bind fun d => (cntR 100 d.2).bind fun m => (readL takeF m.1 m.2).bind fun a => some ⟨l.1, n.1, s.1, d.1, a.1⟩
/-- The edit that bytes are. -/
def decE (b : List UInt8) : Option PE := (takeE b).bind fun x => if x.err = 0 ∧ x.enc = b then some x else none
/-- How the document reads. -/
def rlev (b : List UInt8) : Option (Int × List UInt8) := (numR b).bind fun p => if p.1 ≤ 4 then some ((p.1 : Int), p.2) else none
def rsize (b : List UInt8) : Option (Int × List UInt8) := (numR b).bind fun p => if p.1 ≤ 2147483648 then some ((p.1 : Int), p.2) else none
def rtakeG (b : List UInt8) : Option (PG × List UInt8) := (rlev b).bind fun p => (numR p.2).bind fun q => some (⟨p.1, q.1⟩, q.2)
def rtakeF (b : List UInt8) : Option (PF × List UInt8) := (rlev b).bind fun p => (numR p.2).bind fun q => (rsize q.2).bind fun s => (keyR s.2).bind fun a => (keyR a.2).bind fun c => some (⟨p.1, q.1, s.1, a.1, c.1⟩, c.2)
def rtakeE (b : List UInt8) : Option PE := (numR b).bind fun l => (numR l.2).bind fun n => (numR n.2).bind fun s => (numR s.2).bind fun c => (readL rtakeG (min c.1 20001) c.2).bind fun d => (numR d.2).bind fun m => (readL rtakeF (min m.1 101) m.2).bind fun a => some ⟨l.1, n.1, s.1, d.1, a.1⟩
def rdecE (b : List UInt8) : Option PE := (rtakeE b).bind fun x => if x.err = 0 ∧ x.enc = b then some x else none
theorem gErr_zero {l : Int} {n : Nat} (h : gErr l n = 0) : 0 ≤ l ∧ l < 4 ∧ 1 ≤ n ∧ n ≤ 1099511627776 := by
  unfold gErr at h
  split at h
  · omega
  · split at h <;> omega
theorem PF.err_zero {f : PF} (h : f.err = 0) : gErr f.level f.num = 0 ∧ 1 ≤ f.size ∧ f.size ≤ 2147483647 ∧ f.small.err = 0 ∧ f.large.err = 0 ∧ ¬ f.large.cmp f.small < 0 := by
  unfold PF.err at h
  split at h
  · omega
  · split at h
    · omega
    · split at h
      · omega
      · split at h
        · omega
        · split at h
          · omega
          · refine ⟨?_, ?_, ?_, ?_, ?_, ?_⟩ <;> first | omega | assumption
theorem PE.err_zero {x : PE} (h : x.err = 0) : x.dels.length ≤ 20000 ∧ x.adds.length ≤ 100 ∧ x.log ≤ 1099511627776 ∧ x.next ≤ 1099511627776 ∧ x.last ≤ 72057594037927935 ∧ (∀ g ∈ x.dels, g.err = 0) ∧ (∀ f ∈ x.adds, f.err = 0) := by
  unfold PE.err at h
  split at h
  · omega
  · split at h
    · omega
    · split at h
      · omega
      · split at h
        · omega
        · rename_i h1 h2 h3 h4
          exact ⟨by omega, by omega, by omega, by omega, by omega, errL_zero.1 (by omega), errL_zero.1 h⟩
theorem takeG_enc {g : PG} (h : g.err = 0) (r : List UInt8) : takeG (g.enc ++ r) = some (g, r) ∧ rtakeG (g.enc ++ r) = some (g, r) := by
  obtain ⟨h1, h2, h3, h4⟩ := gErr_zero h
  obtain ⟨l, n⟩ := g
  simp only at h1 h2 h3 h4
  have e1 := numR_enc (n := l.toNat) (by omega) (uvEnc n ++ r)
  have e2 := numR_enc (n := n) (by omega) r
  have e3 : ((l.toNat : Nat) : Int) = l := by omega
  unfold takeG rtakeG rlev PG.enc
  simp only [List.append_assoc, e1, Option.bind_some, e2]
  rw [if_pos (by omega), toI_small (by omega), e3]
  simp [e2]
theorem takeF_enc {f : PF} (h : f.err = 0) (r : List UInt8) : takeF (f.enc ++ r) = some (f, r) ∧ rtakeF (f.enc ++ r) = some (f, r) := by
  obtain ⟨h0, h5, h6, h7, h8, h9⟩ := PF.err_zero h
  obtain ⟨h1, h2, h3, h4⟩ := gErr_zero h0
  obtain ⟨l, n, s, a, c⟩ := f
  simp only at h1 h2 h3 h4 h5 h6 h7 h8 h9
  have e1 := numR_enc (n := l.toNat) (by omega) (uvEnc n ++ (uvEnc s.toNat ++ (txtPut a.enc ++ (txtPut c.enc ++ r))))
  have e2 := numR_enc (n := n) (by omega) (uvEnc s.toNat ++ (txtPut a.enc ++ (txtPut c.enc ++ r)))
  have e3 := numR_enc (n := s.toNat) (by omega) (txtPut a.enc ++ (txtPut c.enc ++ r))
  have e4 := keyR_enc h7 (txtPut c.enc ++ r)
  have e5 := keyR_enc h8 r
  have e6 : ((l.toNat : Nat) : Int) = l := by omega
  have e7 : ((s.toNat : Nat) : Int) = s := by omega
  unfold takeF takeG rtakeF rlev rsize PF.enc
  simp only [List.append_assoc, e1, Option.bind_some, e2, e3, e4, e5]
  rw [if_pos (by omega), toI_small (by omega), toI_small (by omega), e6, e7]
  simp only [Option.bind_some, e2, e3]
  rw [if_pos (by omega)]
  simp [e4, e5, e7]
theorem takeE_enc {x : PE} (h : x.err = 0) : takeE x.enc = some x ∧ rtakeE x.enc = some x := by
  obtain ⟨h1, h2, h3, h4, h5, h6, h7⟩ := PE.err_zero h
  have d1 := readL_enc (f := takeG) (enc := PG.enc) x.dels (fun g hg r => (takeG_enc (h6 g hg) r).1) (uvEnc x.adds.length ++ x.adds.flatMap PF.enc)
  have d2 := readL_enc (f := rtakeG) (enc := PG.enc) x.dels (fun g hg r => (takeG_enc (h6 g hg) r).2) (uvEnc x.adds.length ++ x.adds.flatMap PF.enc)
  have a1 := readL_enc (f := takeF) (enc := PF.enc) x.adds (fun g hg r => (takeF_enc (h7 g hg) r).1) []
  have a2 := readL_enc (f := rtakeF) (enc := PF.enc) x.adds (fun g hg r => (takeF_enc (h7 g hg) r).2) []
  rw [List.append_nil] at a1 a2
  unfold takeE rtakeE PE.enc cntR
  have e1 := numR_enc (n := x.log) (by omega) (uvEnc x.next ++ (uvEnc x.last ++ (uvEnc x.dels.length ++ (x.dels.flatMap PG.enc ++ (uvEnc x.adds.length ++ x.adds.flatMap PF.enc)))))
  have e2 := numR_enc (n := x.next) (by omega) (uvEnc x.last ++ (uvEnc x.dels.length ++ (x.dels.flatMap PG.enc ++ (uvEnc x.adds.length ++ x.adds.flatMap PF.enc))))
  have e3 := numR_enc (n := x.last) (by omega) (uvEnc x.dels.length ++ (x.dels.flatMap PG.enc ++ (uvEnc x.adds.length ++ x.adds.flatMap PF.enc)))
  have e4 := numR_enc (n := x.dels.length) (by omega) (x.dels.flatMap PG.enc ++ (uvEnc x.adds.length ++ x.adds.flatMap PF.enc))
  have e5 := numR_enc (n := x.adds.length) (by omega) (x.adds.flatMap PF.enc)
  simp only [e1, e2, e3, e4, Option.bind_some]
  rw [if_pos h1, Nat.min_eq_left (by omega)]
  simp only [Option.bind_some, d1, d2, e5]
  rw [if_pos h2, Nat.min_eq_left (by omega)]
  simp only [Option.bind_some, a1, a2]
  exact ⟨trivial, trivial⟩
theorem decE_iff {b : List UInt8} {x : PE} : decE b = some x ↔ x.err = 0 ∧ x.enc = b := by
  constructor
  · intro h
    unfold decE at h
    cases ht : takeE b with
    | none => rw [ht] at h; cases h
    | some y =>
      rw [ht, Option.bind_some] at h
      split at h
      · obtain rfl := Option.some.inj h
        assumption
      · cases h
  · rintro ⟨h1, rfl⟩
    unfold decE
    rw [(takeE_enc h1).1, Option.bind_some, if_pos ⟨h1, rfl⟩]
theorem rdecE_iff {b : List UInt8} {x : PE} : rdecE b = some x ↔ x.err = 0 ∧ x.enc = b := by
  constructor
  · intro h
    unfold rdecE at h
    cases ht : rtakeE b with
    | none => rw [ht] at h; cases h
    | some y =>
      rw [ht, Option.bind_some] at h
      split at h
      · obtain rfl := Option.some.inj h
        assumption
      · cases h
  · rintro ⟨h1, rfl⟩
    unfold rdecE
    rw [(takeE_enc h1).2, Option.bind_some, if_pos ⟨h1, rfl⟩]
theorem rdecE_eq (b : List UInt8) : rdecE b = decE b := by
  cases h : decE b with
  | some x => exact rdecE_iff.2 (decE_iff.1 h)
  | none =>
    cases h2 : rdecE b with
    | none => rfl
    | some y =>
      rw [decE_iff.2 (rdecE_iff.1 h2)] at h
      cases h
end Go.Proofs.Ytiflepadjcpjjaa
/- Slices of bytes that a call owns: what make and append leave, told for lists of bytes. -/
namespace Go.Proofs.Ytiflepadjcpjjaa
open Go.RowKit

def cellsB (bs : List UInt8) : List Value := bs.map fun b => Value.int .u8 (b.toNat : Int)
theorem cellsB_length (bs : List UInt8) : (cellsB bs).length = bs.length := by simp [cellsB]
theorem cellsB_append (bs cs : List UInt8) : cellsB (bs ++ cs) = cellsB bs ++ cellsB cs := by simp [cellsB]
theorem cellsB_one (bs : List UInt8) : ∀ u ∈ cellsB bs, u.oneCell' = true := by
  intro u hu
  obtain ⟨_, _, rfl⟩ := List.mem_map.1 hu
  rfl
theorem cellsB_get (bs : List UInt8) (j : Nat) (h : j < bs.length) : (cellsB bs)[j]? = some (.int .u8 ((bs.getD j 0).toNat : Int)) := by
  simp [cellsB, List.getD, h]
theorem strCells_cellsB (s : ByteArray) : Lib.strCells s = cellsB s.data.toList := rfl

/-- The slice value (a, len, cap) reads as the bytes bs and lies in a block of the call's own, from number B on. -/
structure OwnB (w : World) (B : Nat) (a : Option Addr) (len cap : Nat) (bs : List UInt8) : Prop where
  size : bs.length = len
  row : w.ownsRow B 5 1 (.slice a len cap) len (cellsB bs)

theorem OwnB.bs {w : World} {B : Nat} {a : Option Addr} {len cap : Nat} {bs : List UInt8} (h : OwnB w B a len cap bs) : BsAt w a len cap bs := by
  have hs := h.size
  rcases h.row.2 with ⟨hv, hn⟩ | ⟨g, c, cur, hv, hb, hg, hn, hc, hz, ht⟩
  · simp only [Value.slice.injEq] at hv
    obtain ⟨rfl, rfl, rfl⟩ := hv
    exact ⟨hs, Nat.le_refl _, Nat.zero_le _, fun _ => rfl, fun h0 => absurd h0 (Nat.lt_irrefl _)⟩
  · simp only [Value.slice.injEq, true_and] at hv
    obtain ⟨rfl, rfl⟩ := hv
    refine ⟨hs, hn, hc, fun h0 => by simp at h0, fun _ => ⟨g, 0, rfl, fun j hj => ?_⟩⟩
    rw [Nat.zero_add, h.row.cellAt j (by omega), cellsB_get bs j (by omega)]

theorem OwnB.below {w w' : World} {B : Nat} {a : Option Addr} {len cap : Nat} {bs : List UInt8} (h : OwnB w B a len cap bs) (hb : Below w.heap.size w w') : OwnB w' B a len cap bs := by
  refine ⟨h.size, h.row.1, ?_⟩
  rcases h.row.2 with hn | ⟨g, c, cur, hv, hB, hg, rest⟩
  · exact .inl hn
  · exact .inr ⟨g, c, cur, hv, hB, by rw [hb.block g (Array.getElem?_eq_some_iff.1 hg).1]; exact hg, rest⟩

theorem OwnB.mono {w : World} {B B' : Nat} {a : Option Addr} {len cap : Nat} {bs : List UInt8} (h : OwnB w B a len cap bs) (hB : B' ≤ B) : OwnB w B' a len cap bs := by
  refine ⟨h.size, h.row.1, ?_⟩
  rcases h.row.2 with hn | ⟨g, c, cur, hv, hb, rest⟩
  · exact .inl hn
  · exact .inr ⟨g, c, cur, hv, Nat.le_trans hB hb, rest⟩

theorem OwnB.lt {w : World} {B : Nat} {a : Option Addr} {len cap : Nat} {bs : List UInt8} (h : OwnB w B a len cap bs) : ∀ k, (Value.slice a len cap).ownBlock = some k → B ≤ k := fun k hk => (h.row.lt k hk).1

theorem OwnB.alloc {w : World} {B : Nat} {a : Option Addr} {len cap : Nat} {bs : List UInt8} (h : OwnB w B a len cap bs) (o : Obj) : OwnB (w.alloc o) B a len cap bs := ⟨h.size, h.row.alloc o⟩
theorem BsAt.alloc {w : World} {a : Option Addr} {len cap : Nat} {bs : List UInt8} (h : BsAt w a len cap bs) (o : Obj) : BsAt (w.alloc o) a len cap bs := h.below (Nat.le_refl _) ((Below.refl _ _).alloc (Nat.le_refl _) _)

theorem infoU8 : (Try.prog.info? 5).map (fun i => (i.zero, i.size, i.bytes)) = some (some (.int .u8 0), 1, 1) := by kernel_rfl

theorem own_of_row {w : World} {B : Nat} {v : Value} {n : Nat} {bs : List UInt8} (h : w.ownsRow B 5 1 v n (cellsB bs)) : ∃ a cap, v = .slice a n cap ∧ OwnB w B a n cap bs := by
  have hn : bs.length = n := by have := h.1; rw [cellsB_length] at this; omega
  rcases h.2 with ⟨rfl, rfl⟩ | ⟨g, c, cur, rfl, rest⟩
  · exact ⟨none, 0, rfl, hn, h⟩
  · exact ⟨_, c, rfl, hn, h⟩

/-- Bytes appended to a slice of the call's own: a law for the walk. -/
theorem wpList_app (w : World) {ops : Array Oper} {rest : List Oper} {o : Oper} {a : Act} {Q : Exit → Act → World → Prop} (hgd : o.guard = none) (s x : Operand)
    (ho : o.op = .call { callee := .builtin .append, args := #[s, x], argTypes := #[28, 28] })
    (B : Nat) (a1 : Option Addr) (n1 c1 : Nat) (bs : List UInt8) (hs : a.eval s = .slice a1 n1 c1) (hown : OwnB w B a1 n1 c1 bs)
    (a2 : Option Addr) (n2 c2 : Nat) (cs : List UInt8) (hx : a.eval x = .slice a2 n2 c2) (hsrc : BsAt w a2 n2 c2 cs)
    (hl : n1 + n2 ≤ 140737488355328) (hB : B ≤ w.heap.size)
    (h : ∀ a' c' w', OwnB w' B a' (n1 + n2) c' (bs ++ cs) → Below B w w' → w.grownBy w' (Value.slice a1 n1 c1).ownBlock → wpList Try.prog ops Q rest (a.put o.dst (.slice a' (n1 + n2) c')) w') :
    wpList Try.prog ops Q (o :: rest) a w := by
  obtain ⟨i, hi, hz0, hz1, hz2⟩ := info_parts infoU8
  have hsz := hsrc.size
  have fin : ∀ v' w', w'.ownsRow B 5 1 v' (n1 + n2) (cellsB bs ++ cellsB cs) → w.grownBy w' (Value.slice a1 n1 c1).ownBlock → wpList Try.prog ops Q rest (a.put o.dst v') w' := by
    intro v' w' hr hg
    rw [← cellsB_append] at hr
    obtain ⟨a', c', rfl, ho'⟩ := own_of_row hr
    exact h a' c' w' ho' ((Below.refl B w).grown hg hB hown.lt) hg
  cases a2 with
  | none =>
    have hc0 := hsrc.bare rfl
    have hle := hsrc.le
    obtain rfl : n2 = 0 := by omega
    subst hc0
    obtain rfl := List.eq_nil_of_length_eq_zero hsz
    refine wpList_append_own_none hgd s x _ ho B 5 i 1 Try.underlying28 hi _ n1 _ hs hown.row hx ?_
    exact fin _ w (by simpa [cellsB] using hown.row) (World.grownBy.refl _ _)
  | some ad =>
    have hcell : ∀ j u, (cellsB cs)[j]? = some u → w.cell? (ad.add j) = some u := by
      intro j u hu
      have hj : j < cs.length := by have := (List.getElem?_eq_some_iff.1 hu).1; rwa [cellsB_length] at this
      obtain ⟨b, off, he, hc⟩ := hsrc.here (by omega)
      obtain rfl := Option.some.inj he
      rw [cellsB_get cs j hj] at hu
      obtain rfl := Option.some.inj hu
      rw [Addr.add_lit]
      exact hc j (by omega)
    exact wpList_append_own w hgd s x _ ho B 5 i (.int .u8 0) 1 1 Try.underlying28 hi hz0 hz1 hz2 rfl (by decide) _ n1 _ hs hown.row ad n2 c2 (cellsB cs) hx (by rw [cellsB_length]; omega) hcell (cellsB_one cs) (by unfold maxLen; omega) (by omega) hB
      (fun v' w' hr hg _ => fin v' w' hr hg)

/-- A string appended to a slice of the call's own. -/
theorem wpList_appS (w : World) {ops : Array Oper} {rest : List Oper} {o : Oper} {a : Act} {Q : Exit → Act → World → Prop} (hgd : o.guard = none) (s x : Operand)
    (ho : o.op = .call { callee := .builtin .append, args := #[s, x], argTypes := #[28, 9] })
    (B : Nat) (a1 : Option Addr) (n1 c1 : Nat) (bs : List UInt8) (hs : a.eval s = .slice a1 n1 c1) (hown : OwnB w B a1 n1 c1 bs)
    (t : ByteArray) (hx : a.eval x = .string t) (hl : n1 + t.size ≤ 140737488355328) (hB : B ≤ w.heap.size)
    (h : ∀ a' c' w', OwnB w' B a' (n1 + t.size) c' (bs ++ t.data.toList) → Below B w w' → w.grownBy w' (Value.slice a1 n1 c1).ownBlock → wpList Try.prog ops Q rest (a.put o.dst (.slice a' (n1 + t.size) c')) w') :
    wpList Try.prog ops Q (o :: rest) a w := by
  obtain ⟨i, hi, hz0, hz1, hz2⟩ := info_parts infoU8
  refine Lib.wpList_append_own_string w hgd s x _ _ ho B 5 i Try.underlying28 Try.underlying9 hi hz0 hz1 hz2 _ n1 _ hs hown.row t hx (by unfold maxLen; omega) hl hB ?_
  intro v' w' hr hg _
  rw [strCells_cellsB, ← cellsB_append] at hr
  obtain ⟨a', c', rfl, ho'⟩ := own_of_row hr
  exact h a' c' w' ho' ((Below.refl B w).grown hg hB hown.lt) hg

/-- A literal of bytes. -/
theorem BsAt.lit (w : World) (arr : Array Value) (e : TypeId) (fz : Nat × Nat) (bs : List UInt8) (n : Nat) (h : arr.toList = cellsB bs) (hn : bs.length = n) (hm : n ≤ maxLen) : BsAt (w.alloc (.cells arr e fz)) (some ⟨w.heap.size, 0, none⟩) n n bs := by
  refine ⟨hn, Nat.le_refl _, hm, by simp, fun _ => ⟨w.heap.size, 0, rfl, fun j hj => ?_⟩⟩
  rw [← cellsB_get bs j (by omega), ← h, cell_of_row (w.alloc (.cells arr e fz)) w.heap.size (0 + j) arr e fz (heap_alloc_new w _)]
  simp
theorem BsAt.litAt (w : World) (arr : Array Value) (e : TypeId) (fz : Nat × Nat) (bs : List UInt8) (n g : Nat) (hg : g = w.heap.size) (h : arr.toList = cellsB bs) (hn : bs.length = n) (hm : n ≤ maxLen) : BsAt (w.alloc (.cells arr e fz)) (some ⟨g, 0, none⟩) n n bs := by
  subst hg
  exact BsAt.lit w arr e fz bs n h hn hm
/-- An empty literal. -/
theorem OwnB.made (w : World) : OwnB (w.alloc (.cells #[] 5)) w.heap.size (some ⟨w.heap.size, 0, none⟩) 0 0 [] := ⟨rfl, World.ownsRow_made w #[] 0 (Nat.le_refl _) (Nat.zero_le _) rfl⟩
theorem BsAt.nil (w : World) : BsAt w none 0 0 [] := ⟨rfl, Nat.le_refl _, Nat.zero_le _, fun _ => rfl, fun h => absurd h (Nat.lt_irrefl _)⟩
/-- Bytes appended to an empty literal: a copy of the call's own. -/
theorem wpList_app0 (w : World) {ops : Array Oper} {rest : List Oper} {o : Oper} {a : Act} {Q : Exit → Act → World → Prop} (hgd : o.guard = none) (s x : Operand)
    (ho : o.op = .call { callee := .builtin .append, args := #[s, x], argTypes := #[28, 28] })
    (hs : a.eval s = .slice (some ⟨w.heap.size, 0, none⟩) 0 0)
    (a2 : Option Addr) (n2 c2 : Nat) (cs : List UInt8) (hx : a.eval x = .slice a2 n2 c2) (hsrc : BsAt w a2 n2 c2 cs) (hl : n2 ≤ 140737488355328)
    (h : ∀ a' c' w', OwnB w' w.heap.size a' n2 c' cs → Below w.heap.size w w' → wpList Try.prog ops Q rest (a.put o.dst (.slice a' n2 c')) w') :
    wpList Try.prog ops Q (o :: rest) a (w.alloc (.cells #[] 5)) := by
  refine wpList_app _ hgd s x ho w.heap.size _ 0 0 [] hs (OwnB.made w) a2 n2 c2 cs hx (hsrc.alloc _) (by omega) (by simp) ?_
  intro a' c' w' h1 h2 _
  rw [Nat.zero_add] at h1 ⊢
  exact h a' c' w' h1 (((Below.refl _ _).alloc (Nat.le_refl _) _).trans h2)
/-- Where the bytes of an own slice lie. -/
theorem OwnB.cells {w : World} {B : Nat} {a : Option Addr} {len cap : Nat} {bs : List UInt8} (h : OwnB w B a len cap bs) (hp : 0 < len) : ∃ g, a = some ⟨g, 0, none⟩ ∧ B ≤ g ∧ g < w.heap.size ∧ ∀ j, j < len → w.cell? ⟨g, j, none⟩ = some (.int .u8 ((bs.getD j 0).toNat : Int)) := by
  obtain ⟨b, off, rfl, hc⟩ := h.bs.here hp
  rcases h.row.2 with ⟨hv, hn⟩ | ⟨g, c, cur, hv, hb, hg, hn, hcm, hz, ht⟩
  · simp at hv
  · simp only [Value.slice.injEq, Option.some.injEq, Addr.mk.injEq, true_and, and_true] at hv
    obtain ⟨⟨rfl, rfl⟩, rfl⟩ := hv
    exact ⟨b, rfl, hb, (Array.getElem?_eq_some_iff.1 hg).1, fun j hj => by have := hc j hj; rwa [Nat.zero_add] at this⟩

theorem OwnB.unfrozen {w : World} {B g len cap : Nat} {bs : List UInt8} (h : OwnB w B (some ⟨g, 0, none⟩) len cap bs) (j : Nat) : w.frozen? ⟨g, j, none⟩ = false := by
  rcases h.row.2 with ⟨hv, _⟩ | ⟨g', c, cur, hv, _, hg, _⟩
  · simp at hv
  · simp only [Value.slice.injEq, Option.some.injEq, Addr.mk.injEq, true_and, and_true] at hv
    obtain ⟨rfl, rfl⟩ := hv
    unfold World.frozen?
    rw [hg]
    simp
/-- A byte of a slice is stored. -/
theorem BsAt.store {w : World} {g off len cap : Nat} {bs : List UInt8} (h : BsAt w (some ⟨g, off, none⟩) len cap bs) (j : Nat) (hj : j < len) (x : UInt8) : BsAt (w.setCell ⟨g, off + j, none⟩ (.int .u8 (x.toNat : Int))) (some ⟨g, off, none⟩) len cap (bs.set j x) := by
  have hs := h.size
  refine ⟨by simp [hs], h.le, h.max, h.bare, fun hp => ⟨g, off, rfl, fun i hi => ?_⟩⟩
  obtain ⟨b, o, he, hc⟩ := h.here hp
  simp only [Option.some.injEq, Addr.mk.injEq, and_true] at he
  obtain ⟨rfl, rfl⟩ := he
  by_cases hij : i = j
  · subst hij
    rw [World.cell?_setCell_same _ _ _ (hc i hi)]
    simp [List.getD, hs, hi]
  · rw [World.cell?_setCell_other _ _ _ _ (fun e => hij (by have := congrArg Addr.off e; simp at this; omega)), hc i hi]
    simp [List.getD, show ¬ j = i from fun e => hij e.symm]
/-- A constant text as bytes: the row of the literal is marked, nothing else. -/
theorem run_conv_lit (W : World) (C : Array Value) (n l c : Nat) (hn : n = W.heap.size) :
    (convert 28 28 (.slice (some ⟨n, 0, none⟩) l c)).run Try.prog (W.alloc (.cells C 5)) = .ok (.slice (some ⟨n, 0, none⟩) l c) (W.alloc (.cells C 5 (C.size, C.size + 1))) := by
  subst hn
  have hsh : (W.alloc (.cells C 5)).shape? W.heap.size = some (5, C.size) := by
    unfold World.shape?
    rw [heap_alloc_new W (.cells C 5)]
  have hfr : (W.alloc (.cells C 5)).freeze ⟨W.heap.size, C.size, none⟩ 1 = W.alloc (.cells C 5 (C.size, C.size + 1)) := by
    have hm : ∀ (a : Array Obj) (x : Obj) (f : Obj → Obj), (a.push x).modify a.size f = a.push (f x) := by
      intro a x f
      apply Array.ext
      · simp
      · intro i h1 h2
        simp only [Array.getElem_modify, Array.getElem_push]
        by_cases h : a.size = i
        · subst h
          simp
        · have hi : i < a.size := by simp at h1; omega
          simp [h, hi]
    unfold World.freeze
    rw [if_neg (by decide)]
    show ({ W.alloc (.cells C 5) with heap := (W.heap.push (.cells C 5)).modify W.heap.size _ } : World) = _
    rw [hm]
    rfl
  simp [convert, run_underlying Try.underlying28, run_underlying Try.underlying5, markStringish, hsh]
  exact hfr
theorem BsAt.drew {w : World} {a : Option Addr} {len cap : Nat} {bs : List UInt8} (h : BsAt w a len cap bs) : BsAt w.drew a len cap bs := h.below (Nat.le_refl _) (Below.refl _ _).drew
/-- A slice of bytes as a string, in whatever world it reads so. -/
theorem conv_of {w : World} {a : Option Addr} {len cap : Nat} {bs : List UInt8} (h : BsAt w a len cap bs) : (convert 28 9 (.slice a len cap)).run Try.prog w = .ok (.string (strOf bs)) w :=
  h.asStr (P := Try.prog) (dst := 9) Try.underlying28 Try.underlying5 Try.underlying9
/-- The first k bytes. -/
theorem BsAt.upTo {w : World} {a : Option Addr} {len cap : Nat} {bs : List UInt8} (h : BsAt w a len cap bs) (k : Nat) (hk : k ≤ len) : BsAt w a k cap (bs.take k) := by
  have hs := h.size
  have hl := h.le
  refine ⟨by simp; omega, by omega, h.max, h.bare, fun hp => ?_⟩
  obtain ⟨b, off, rfl, hc⟩ := h.here (by omega)
  refine ⟨b, off, rfl, fun j hj => ?_⟩
  rw [hc j (by omega)]
  simp [List.getD, hj]
theorem strOf_inj {a b : List UInt8} (h : strOf a = strOf b) : a = b := by
  have := congrArg (fun s : ByteArray => s.data.toList) h
  simpa [strOf] using this
end Go.Proofs.Ytiflepadjcpjjaa
