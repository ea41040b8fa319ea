/- Edits, plainly: what is wrong with one, its bytes, and how bytes are read, by the program and by the document; no program is spoken of here. -/
import Derived.Test.YtmlfbihlbiikeaaGreatDoorQe01
import Derived.Test.YtmlfbihlbiikeaaGreatDoorQe00
import Derived.BigQuiet
import Derived.Handy
set_option linter.unusedVariables false
set_option linter.unusedSimpArgs false
set_option maxRecDepth 100000
namespace Go.Proofs.YtmlfbihlbiikeaaGreatDoor
structure PG where
 level : Int
 num : Nat
structure PF where
 level : Int
 num : Nat
 size : Int
 small : IK
 large : IK
structure PE where
 log : Nat
 next : Nat
 last : Nat
 dels : List PG
 adds : List PF
def gErr (l : Int) (n : Nat) : Nat := if l < 0 ∨ 4 ≤ l then 130 else if n < 1 ∨ 1099511627776 < n then 132 else 0
def PG.err (g : PG) : Nat := gErr g.level g.num
def PF.err (f : PF) : Nat :=
 if gErr f.level f.num ≠ 0 then gErr f.level f.num
 else if f.size < 1 ∨ 2147483647 < f.size then 132
 else if f.small.err ≠ 0 then f.small.err
 else if f.large.err ≠ 0 then f.large.err
 else if f.large.cmp f.small < 0 then 132 else 0
def errL {α : Type} (f : α → Nat) : List α → Nat
 | [] => 0
 | x :: r => if f x ≠ 0 then f x else errL f r
theorem errL_zero {α : Type} {f : α → Nat} : ∀ {l : List α}, errL f l = 0 ↔ ∀ x ∈ l, f x = 0
 | [] => by simp [errL]
 | x :: r => by
  have := errL_zero (f := f) (l := r)
  unfold errL
  by_cases h : f x ≠ 0
  · rw [if_pos h]
    simp [h]
  · rw [if_neg h, this]
    simp at h
    simp [h]
theorem errL_step {α : Type} {f : α → Nat} {l : List α} {k : Nat} (hk : k < l.length) : errL f (l.drop k) = if f l[k] ≠ 0 then f l[k] else errL f (l.drop (k + 1)) := by
 rw [List.drop_eq_getElem_cons hk, errL]
theorem errL_end {α : Type} {f : α → Nat} {l : List α} {k : Nat} (hk : l.length ≤ k) : errL f (l.drop k) = 0 := by
 rw [List.drop_eq_nil_of_le hk, errL]
def PE.err (x : PE) : Nat :=
 if 20000 < x.dels.length ∨ 100 < x.adds.length then 131
 else if 1099511627776 < x.log ∨ 1099511627776 < x.next then 132
 else if 72057594037927935 < x.last then 22
 else if errL PG.err x.dels ≠ 0 then errL PG.err x.dels
 else errL PF.err x.adds
def PG.enc (g : PG) : List UInt8 := uvEnc g.level.toNat ++ uvEnc g.num
def PF.enc (f : PF) : List UInt8 := uvEnc f.level.toNat ++ (uvEnc f.num ++ (uvEnc f.size.toNat ++ (txtPut f.small.enc ++ txtPut f.large.enc)))
def PE.enc (x : PE) : List UInt8 := uvEnc x.log ++ (uvEnc x.next ++ (uvEnc x.last ++ (uvEnc x.dels.length ++ (x.dels.flatMap PG.enc ++ (uvEnc x.adds.length ++ x.adds.flatMap PF.enc)))))
def PE.lay (x : PE) : List UInt8 := if x.err = 0 then x.enc else []
def numR (b : List UInt8) : Option (Nat × List UInt8) := if (uvRead b).2.2 = 0 then some ((uvRead b).1, b.drop (uvRead b).2.1) else none
def keyR (b : List UInt8) : Option (IK × List UInt8) := if (txtRead b).2.2 = 0 ∧ keyOk (txtRead b).1 = true then some (decKey (txtRead b).1, b.drop (txtRead b).2.1) else none
def toI (n : Nat) : Int := IntKind.i64.wrap (n : Int)
theorem toI_small {n : Nat} (h : n < 9223372036854775808) : toI n = (n : Int) := by
 unfold toI
 rw [IntKind.wrap_i64]
 omega
theorem numR_enc {n : Nat} (h : n < 18446744073709551616) (r : List UInt8) : numR (uvEnc n ++ r) = some (n, r) := by
 unfold numR
 rw [uvRead_enc n h]
 simp
theorem keyR_enc {k : IK} (h : k.err = 0) (r : List UInt8) : keyR (txtPut k.enc ++ r) = some (k, r) := by
 have hl := enc_len h
 have hu := err_le h
 unfold keyR
 rw [txtRead_put _ _ (by omega)]
 simp [keyOk_enc h, decKey_enc h]
def readL {α : Type} (f : List UInt8 → Option (α × List UInt8)) : Nat → List UInt8 → Option (List α × List UInt8)
 | 0, b => some ([], b)
 | n + 1, b => (f b).bind fun p => (readL f n p.2).map fun q => (p.1 :: q.1, q.2)
theorem readL_enc {α : Type} {f : List UInt8 → Option (α × List UInt8)} {enc : α → List UInt8} : ∀ (l : List α), (∀ x ∈ l, ∀ r, f (enc x ++ r) = some (x, r)) → ∀ r, readL f l.length (l.flatMap enc ++ r) = some (l, r)
 | [], _, r => rfl
 | x :: l, h, r => by
  have ih := readL_enc l (fun y hy => h y (by simp [hy])) r
  rw [List.length_cons, readL, List.flatMap_cons, List.append_assoc, h x (by simp)]
  simp [ih]
def Part {α : Type} (f : List UInt8 → Option (α × List UInt8)) (n : Nat) (b : List UInt8) (k : Nat) (acc : List α) (r : List UInt8) : Prop :=
 readL f n b = (readL f k r).map fun q => (acc ++ q.1, q.2)
theorem Part.start {α : Type} (f : List UInt8 → Option (α × List UInt8)) (n : Nat) (b : List UInt8) : Part f n b n [] b := by
 unfold Part
 cases readL f n b <;> simp
theorem Part.step {α : Type} {f : List UInt8 → Option (α × List UInt8)} {n k : Nat} {b r r' : List UInt8} {acc : List α} {x : α} (h : Part f n b (k + 1) acc r) (hx : f r = some (x, r')) : Part f n b k (acc ++ [x]) r' := by
 unfold Part at h ⊢
 rw [h, readL, hx, Option.bind_some]
 cases h2 : readL f k r' <;> simp
theorem Part.none {α : Type} {f : List UInt8 → Option (α × List UInt8)} {n k : Nat} {b r : List UInt8} {acc : List α} (h : Part f n b (k + 1) acc r) (hx : f r = none) : readL f n b = none := by
 unfold Part at h
 rw [h, readL, hx]
 rfl
theorem Part.done {α : Type} {f : List UInt8 → Option (α × List UInt8)} {n : Nat} {b r : List UInt8} {acc : List α} (h : Part f n b 0 acc r) : readL f n b = some (acc, r) := by
 unfold Part at h
 rw [h, readL]
 simp
def takeG (b : List UInt8) : Option (PG × List UInt8) := (numR b).bind fun p => (numR p.2).bind fun q => some (⟨toI p.1, q.1⟩, q.2)
def takeF (b : List UInt8) : Option (PF × List UInt8) := (takeG b).bind fun g => (numR g.2).bind fun s => (keyR s.2).bind fun a => (keyR a.2).bind fun c => some (⟨g.1.level, g.1.num, toI s.1, a.1, c.1⟩, c.2)
def cntR (lim : Nat) (b : List UInt8) : Option (Nat × List UInt8) := (numR b).bind fun p => if p.1 ≤ lim then some p else none
def takeE (b : List UInt8) : Option PE := (numR b).bind fun l => (numR l.2).bind fun n => (numR n.2).bind fun s => (cntR 20000 s.2).bind fun c => (readL takeG c.1 c.2).bind fun d => (cntR 100 d.2).bind fun m => (readL takeF m.1 m.2).bind fun a => some ⟨l.1, n.1, s.1, d.1, a.1⟩
def decE (b : List UInt8) : Option PE := (takeE b).bind fun x => if x.err = 0 ∧ x.enc = b then some x else none
def rlev (b : List UInt8) : Option (Int × List UInt8) := (numR b).bind fun p => if p.1 ≤ 4 then some ((p.1 : Int), p.2) else none
def rsize (b : List UInt8) : Option (Int × List UInt8) := (numR b).bind fun p => if p.1 ≤ 2147483648 then some ((p.1 : Int), p.2) else none
def rtakeG (b : List UInt8) : Option (PG × List UInt8) := (rlev b).bind fun p => (numR p.2).bind fun q => some (⟨p.1, q.1⟩, q.2)
def rtakeF (b : List UInt8) : Option (PF × List UInt8) := (rlev b).bind fun p => (numR p.2).bind fun q => (rsize q.2).bind fun s => (keyR s.2).bind fun a => (keyR a.2).bind fun c => some (⟨p.1, q.1, s.1, a.1, c.1⟩, c.2)
def rtakeE (b : List UInt8) : Option PE := (numR b).bind fun l => (numR l.2).bind fun n => (numR n.2).bind fun s => (numR s.2).bind fun c => (readL rtakeG (min c.1 20001) c.2).bind fun d => (numR d.2).bind fun m => (readL rtakeF (min m.1 101) m.2).bind fun a => some ⟨l.1, n.1, s.1, d.1, a.1⟩
theorem gErr_zero {l : Int} {n : Nat} (h : gErr l n = 0) : 0 ≤ l ∧ l < 4 ∧ 1 ≤ n ∧ n ≤ 1099511627776 := by
 unfold gErr at h
 split at h
 · omega
 · split at h <;> omega
theorem PF.err_zero {f : PF} (h : f.err = 0) : gErr f.level f.num = 0 ∧ 1 ≤ f.size ∧ f.size ≤ 2147483647 ∧ f.small.err = 0 ∧ f.large.err = 0 ∧ ¬ f.large.cmp f.small < 0 := by
 unfold PF.err at h
 split at h
 · omega
 · split at h
   · omega
   · split at h
     · omega
     · split at h
       · omega
       · split at h
         · omega
         · refine ⟨?_, ?_, ?_, ?_, ?_, ?_⟩ <;> first | omega | assumption
theorem PE.err_zero {x : PE} (h : x.err = 0) : x.dels.length ≤ 20000 ∧ x.adds.length ≤ 100 ∧ x.log ≤ 1099511627776 ∧ x.next ≤ 1099511627776 ∧ x.last ≤ 72057594037927935 ∧ (∀ g ∈ x.dels, g.err = 0) ∧ (∀ f ∈ x.adds, f.err = 0) := by
 unfold PE.err at h
 split at h
 · omega
 · split at h
   · omega
   · split at h
     · omega
     · split at h
       · omega
       · rename_i h1 h2 h3 h4
         exact ⟨by omega, by omega, by omega, by omega, by omega, errL_zero.1 (by omega), errL_zero.1 h⟩
theorem takeG_enc {g : PG} (h : g.err = 0) (r : List UInt8) : takeG (g.enc ++ r) = some (g, r) ∧ rtakeG (g.enc ++ r) = some (g, r) := by
 obtain ⟨h1, h2, h3, h4⟩ := gErr_zero h
 obtain ⟨l, n⟩ := g
 simp only at h1 h2 h3 h4
 have e1 := numR_enc (n := l.toNat) (by omega) (uvEnc n ++ r)
 have e2 := numR_enc (n := n) (by omega) r
 have e3 : ((l.toNat : Nat) : Int) = l := by omega
 unfold takeG rtakeG rlev PG.enc
 simp only [List.append_assoc, e1, Option.bind_some, e2]
 rw [if_pos (by omega), toI_small (by omega), e3]
 simp [e2]
theorem takeF_enc {f : PF} (h : f.err = 0) (r : List UInt8) : takeF (f.enc ++ r) = some (f, r) ∧ rtakeF (f.enc ++ r) = some (f, r) := by
 obtain ⟨h0, h5, h6, h7, h8, h9⟩ := PF.err_zero h
 obtain ⟨h1, h2, h3, h4⟩ := gErr_zero h0
 obtain ⟨l, n, s, a, c⟩ := f
 simp only at h1 h2 h3 h4 h5 h6 h7 h8 h9
 have e1 := numR_enc (n := l.toNat) (by omega) (uvEnc n ++ (uvEnc s.toNat ++ (txtPut a.enc ++ (txtPut c.enc ++ r))))
 have e2 := numR_enc (n := n) (by omega) (uvEnc s.toNat ++ (txtPut a.enc ++ (txtPut c.enc ++ r)))
 have e3 := numR_enc (n := s.toNat) (by omega) (txtPut a.enc ++ (txtPut c.enc ++ r))
 have e4 := keyR_enc h7 (txtPut c.enc ++ r)
 have e5 := keyR_enc h8 r
 have e6 : ((l.toNat : Nat) : Int) = l := by omega
 have e7 : ((s.toNat : Nat) : Int) = s := by omega
 unfold takeF takeG rtakeF rlev rsize PF.enc
 simp only [List.append_assoc, e1, Option.bind_some, e2, e3, e4, e5]
 rw [if_pos (by omega), toI_small (by omega), toI_small (by omega), e6, e7]
 simp only [Option.bind_some, e2, e3]
 rw [if_pos (by omega)]
 simp [e4, e5, e7]
theorem takeE_enc {x : PE} (h : x.err = 0) : takeE x.enc = some x ∧ rtakeE x.enc = some x := by
 obtain ⟨h1, h2, h3, h4, h5, h6, h7⟩ := PE.err_zero h
 have d1 := readL_enc (f := takeG) (enc := PG.enc) x.dels (fun g hg r => (takeG_enc (h6 g hg) r).1) (uvEnc x.adds.length ++ x.adds.flatMap PF.enc)
 have d2 := readL_enc (f := rtakeG) (enc := PG.enc) x.dels (fun g hg r => (takeG_enc (h6 g hg) r).2) (uvEnc x.adds.length ++ x.adds.flatMap PF.enc)
 have a1 := readL_enc (f := takeF) (enc := PF.enc) x.adds (fun g hg r => (takeF_enc (h7 g hg) r).1) []
 have a2 := readL_enc (f := rtakeF) (enc := PF.enc) x.adds (fun g hg r => (takeF_enc (h7 g hg) r).2) []
 rw [List.append_nil] at a1 a2
 unfold takeE rtakeE PE.enc cntR
 have e1 := numR_enc (n := x.log) (by omega) (uvEnc x.next ++ (uvEnc x.last ++ (uvEnc x.dels.length ++ (x.dels.flatMap PG.enc ++ (uvEnc x.adds.length ++ x.adds.flatMap PF.enc)))))
 have e2 := numR_enc (n := x.next) (by omega) (uvEnc x.last ++ (uvEnc x.dels.length ++ (x.dels.flatMap PG.enc ++ (uvEnc x.adds.length ++ x.adds.flatMap PF.enc))))
 have e3 := numR_enc (n := x.last) (by omega) (uvEnc x.dels.length ++ (x.dels.flatMap PG.enc ++ (uvEnc x.adds.length ++ x.adds.flatMap PF.enc)))
 have e4 := numR_enc (n := x.dels.length) (by omega) (x.dels.flatMap PG.enc ++ (uvEnc x.adds.length ++ x.adds.flatMap PF.enc))
 have e5 := numR_enc (n := x.adds.length) (by omega) (x.adds.flatMap PF.enc)
 simp only [e1, e2, e3, e4, Option.bind_some]
 rw [if_pos h1, Nat.min_eq_left (by omega)]
 simp only [Option.bind_some, d1, d2, e5]
 rw [if_pos h2, Nat.min_eq_left (by omega)]
 simp only [Option.bind_some, a1, a2]
 exact ⟨trivial, trivial⟩
theorem decE_iff {b : List UInt8} {x : PE} : decE b = some x ↔ x.err = 0 ∧ x.enc = b := by
 constructor
 · intro h
   unfold decE at h
   cases ht : takeE b with
   | none => rw [ht] at h; cases h
   | some y =>
    rw [ht, Option.bind_some] at h
    split at h
    · obtain rfl := Option.some.inj h
      assumption
    · cases h
 · rintro ⟨h1, rfl⟩
   unfold decE
   rw [(takeE_enc h1).1, Option.bind_some, if_pos ⟨h1, rfl⟩]
end Go.Proofs.YtmlfbihlbiikeaaGreatDoor
namespace Go.Proofs.YtmlfbihlbiikeaaGreatDoor
open Go.RowKit
abbrev TG : TypeId := 135
abbrev TF : TypeId := 59
abbrev TE : TypeId := 65
theorem flat_len {α : Type} {f : α → List Value} {sz : Nat} (hf : ∀ x, (f x).length = sz) : ∀ l : List α, (l.flatMap f).length = l.length * sz
 | [] => by simp
 | x :: r => by
  have := flat_len hf r
  rw [List.flatMap_cons, List.length_append, this, hf, List.length_cons, Nat.succ_mul]
  omega
theorem flat_get {α : Type} {f : α → List Value} {sz : Nat} (hf : ∀ x, (f x).length = sz) : ∀ (l : List α) (k i : Nat) (hk : k < l.length), i < sz → (l.flatMap f)[k * sz + i]? = (f l[k])[i]?
 | x :: r, 0, i, _, hi => by
  rw [List.flatMap_cons, List.getElem?_append_left (by rw [hf]; omega)]
  simp
 | x :: r, k + 1, i, hk, hi => by
  have := flat_get hf r k i (by simpa using hk) hi
  rw [List.flatMap_cons, List.getElem?_append_right (by rw [hf, Nat.succ_mul]; omega), hf, show (k + 1) * sz + i - sz = k * sz + i by rw [Nat.succ_mul]; omega, this]
  simp
structure VsAt (sz : Nat) (w : World) (a : Option Addr) (n c : Nat) (cs : List Value) : Prop where
 size : cs.length = n * sz
 le : n ≤ c
 max : c ≤ maxLen
 bare : a = none → c = 0
 here : 0 < n → ∃ b off, a = some ⟨b, off, none⟩ ∧ ∀ j, j < n * sz → w.cell? ⟨b, off + j, none⟩ = cs[j]?
theorem VsAt.below {sz : Nat} {w w' : World} {a : Option Addr} {n c : Nat} {cs : List Value} (h : VsAt sz w a n c cs) (hz : 0 < sz) (hb : Below w.heap.size w w') : VsAt sz w' a n c cs := ⟨h.size, h.le, h.max, h.bare, fun hp => by
 obtain ⟨b, off, ha, hc⟩ := h.here hp
 have hs := h.size
 have hpos : 0 < n * sz := Nat.mul_pos hp hz
 have hb0 : b < w.heap.size := by
  have h0 := hc 0 hpos
  rw [List.getElem?_eq_getElem (by omega)] at h0
  exact World.block_lt_of_cell? w _ h0
 exact ⟨b, off, ha, fun j hj => by rw [hb.cell hb0]; exact hc j hj⟩⟩
theorem VsAt.nil (sz : Nat) (w : World) : VsAt sz w none 0 0 [] := ⟨by simp, Nat.le_refl _, Nat.zero_le _, fun _ => rfl, fun h => absurd h (Nat.lt_irrefl _)⟩
def gc (g : PG) : List Value := [.int .i64 g.level, .int .u64 (g.num : Int)]
def fc (f : PF) : List Value := [.int .i64 f.level, .int .u64 (f.num : Int), .int .i64 f.size, .string f.small.user, .int .u64 (f.small.seq : Int), .int .i64 f.small.kind, .string f.large.user, .int .u64 (f.large.seq : Int), .int .i64 f.large.kind]
def gA (g : PG) : Array Value := #[.int .i64 g.level, .int .u64 (g.num : Int)]
def fA (f : PF) : Array Value := #[.int .i64 f.level, .int .u64 (f.num : Int), .int .i64 f.size, .string f.small.user, .int .u64 (f.small.seq : Int), .int .i64 f.small.kind, .string f.large.user, .int .u64 (f.large.seq : Int), .int .i64 f.large.kind]
theorem gc_len (g : PG) : (gc g).length = 2 := rfl
theorem fc_len (f : PF) : (fc f).length = 9 := rfl
structure GsAt (w : World) (a : Option Addr) (n c : Nat) (l : List PG) : Prop where
 size : l.length = n
 row : VsAt 2 w a n c (l.flatMap gc)
structure FlAt (w : World) (a : Option Addr) (n c : Nat) (l : List PF) : Prop where
 size : l.length = n
 row : VsAt 9 w a n c (l.flatMap fc)
section
variable {w w' : World} {a : Option Addr} {n c : Nat}
theorem GsAt.below {l : List PG} (h : GsAt w a n c l) (hb : Below w.heap.size w w') : GsAt w' a n c l := ⟨h.size, h.row.below (by omega) hb⟩
theorem FlAt.below {l : List PF} (h : FlAt w a n c l) (hb : Below w.heap.size w w') : FlAt w' a n c l := ⟨h.size, h.row.below (by omega) hb⟩
theorem GsAt.nil (w : World) : GsAt w none 0 0 [] := ⟨rfl, VsAt.nil _ _⟩
theorem FlAt.nil (w : World) : FlAt w none 0 0 [] := ⟨rfl, VsAt.nil _ _⟩
theorem GsAt.at {l : List PG} (h : GsAt w a n c l) {k : Nat} (hk : k < l.length) : ∃ b o : Nat, (∀ W : World, (Instr.indexAt 63 (.slice a n c) (.int .i64 (k : Int))).run Tryz.prog W = .ok (.pointer (some ⟨b, o, none⟩)) W) ∧ b < w.heap.size ∧ (∀ W : World, Below w.heap.size w W → W.cell? ⟨b, o, none⟩ = some (.int .i64 l[k].level) ∧ W.cell? ⟨b, o + 1, none⟩ = some (.int .u64 (l[k].num : Int))) := by
 have hs := h.size
 obtain ⟨b, off, rfl, hc⟩ := h.row.here (by omega)
 have e0 := hc (k * 2 + 0) (by omega)
 have e1 := hc (k * 2 + 1) (by omega)
 rw [flat_get gc_len l k _ hk (by omega)] at e0 e1
 simp only [Nat.add_zero, ← Nat.add_assoc] at e0 e1
 have hlt : b < w.heap.size := World.block_lt_of_cell? w _ e0
 refine ⟨b, off + k * 2, fun W => ?_, hlt, fun W hW => ⟨by rw [hW.cell hlt]; exact e0, by rw [hW.cell hlt]; exact e1⟩⟩
 have h1 : (0 : Int) ≤ (k : Int) ∧ (k : Int) < (n : Int) := by omega
 have hsz : (sizeOf (Tryz.prog.elem 63)).run Tryz.prog W = .ok 2 W := by kernel_rfl
 rw [run_indexAt_slice (P := Tryz.prog) (h := (by kernel_rfl : Tryz.prog.underlying 63 = some (.slice (Tryz.prog.elem 63)))), if_pos h1, hsz]
 simp [Result.andThen, Addr.add_lit]
structure F9 (W : World) (b o : Nat) (f : PF) : Prop where
 c0 : W.cell? ⟨b, o, none⟩ = some (.int .i64 f.level)
 c1 : W.cell? ⟨b, o + 1, none⟩ = some (.int .u64 (f.num : Int))
 c2 : W.cell? ⟨b, o + 2, none⟩ = some (.int .i64 f.size)
 c3 : W.cell? ⟨b, o + 3, none⟩ = some (.string f.small.user)
 c4 : W.cell? ⟨b, o + 4, none⟩ = some (.int .u64 (f.small.seq : Int))
 c5 : W.cell? ⟨b, o + 5, none⟩ = some (.int .i64 f.small.kind)
 c6 : W.cell? ⟨b, o + 6, none⟩ = some (.string f.large.user)
 c7 : W.cell? ⟨b, o + 7, none⟩ = some (.int .u64 (f.large.seq : Int))
 c8 : W.cell? ⟨b, o + 8, none⟩ = some (.int .i64 f.large.kind)
theorem F9.below {w W : World} {b o : Nat} {f : PF} (h : F9 w b o f) (hW : Below w.heap.size w W) : F9 W b o f := by
 have hlt : b < w.heap.size := World.block_lt_of_cell? w _ h.c0
 obtain ⟨h0, h1, h2, h3, h4, h5, h6, h7, h8⟩ := h
 exact ⟨by rw [hW.cell hlt]; exact h0, by rw [hW.cell hlt]; exact h1, by rw [hW.cell hlt]; exact h2, by rw [hW.cell hlt]; exact h3, by rw [hW.cell hlt]; exact h4, by rw [hW.cell hlt]; exact h5, by rw [hW.cell hlt]; exact h6, by rw [hW.cell hlt]; exact h7, by rw [hW.cell hlt]; exact h8⟩
theorem FlAt.at {l : List PF} (h : FlAt w a n c l) {k : Nat} (hk : k < l.length) : ∃ b o : Nat, (∀ W : World, (Instr.indexAt 41 (.slice a n c) (.int .i64 (k : Int))).run Tryz.prog W = .ok (.pointer (some ⟨b, o, none⟩)) W) ∧ b < w.heap.size ∧ (∀ W : World, Below w.heap.size w W → F9 W b o l[k]) := by
 have hs := h.size
 obtain ⟨b, off, rfl, hc⟩ := h.row.here (by omega)
 have e0 := hc (k * 9 + 0) (by omega)
 have e1 := hc (k * 9 + 1) (by omega)
 have e2 := hc (k * 9 + 2) (by omega)
 have e3 := hc (k * 9 + 3) (by omega)
 have e4 := hc (k * 9 + 4) (by omega)
 have e5 := hc (k * 9 + 5) (by omega)
 have e6 := hc (k * 9 + 6) (by omega)
 have e7 := hc (k * 9 + 7) (by omega)
 have e8 := hc (k * 9 + 8) (by omega)
 rw [flat_get fc_len l k _ hk (by omega)] at e0 e1 e2 e3 e4 e5 e6 e7 e8
 simp only [Nat.add_zero, ← Nat.add_assoc] at e0 e1 e2 e3 e4 e5 e6 e7 e8
 have hlt : b < w.heap.size := World.block_lt_of_cell? w _ e0
 refine ⟨b, off + k * 9, fun W => ?_, hlt, fun W hW => F9.below ⟨e0, e1, e2, e3, e4, e5, e6, e7, e8⟩ hW⟩
 have h1 : (0 : Int) ≤ (k : Int) ∧ (k : Int) < (n : Int) := by omega
 have hsz : (sizeOf (Tryz.prog.elem 41)).run Tryz.prog W = .ok 9 W := by kernel_rfl
 rw [run_indexAt_slice (P := Tryz.prog) (h := (by kernel_rfl : Tryz.prog.underlying 41 = some (.slice (Tryz.prog.elem 41)))), if_pos h1, hsz]
 simp [Result.andThen, Addr.add_lit]
end
structure SE where
 a : Option Addr
 c : Nat
 a' : Option Addr
 c' : Nat
def eA (x : PE) (s : SE) : Array Value := #[.int .u64 (x.log : Int), .int .u64 (x.next : Int), .int .u64 (x.last : Int), .slice s.a x.dels.length s.c, .slice s.a' x.adds.length s.c']
def evV (x : PE) (s : SE) : Value := .agg #[.int .u64 (x.log : Int), .int .u64 (x.next : Int), .int .u64 (x.last : Int), .slice s.a x.dels.length s.c, .slice s.a' x.adds.length s.c']
structure EdAt (w : World) (x : PE) (s : SE) : Prop where
 gs : GsAt w s.a x.dels.length s.c x.dels
 fs : FlAt w s.a' x.adds.length s.c' x.adds
theorem EdAt.below {w w' : World} {x : PE} {s : SE} (h : EdAt w x s) (hb : Below w.heap.size w w') : EdAt w' x s := ⟨h.gs.below hb, h.fs.below hb⟩
def WfF (f : PF) : Prop := f.small.user.size ≤ 140737488351232 ∧ f.large.user.size ≤ 140737488351232
def WfE (x : PE) : Prop := ∀ f ∈ x.adds, WfF f
def ez : PE := ⟨0, 0, 0, [], []⟩
def sz0 : SE := ⟨none, 0, none, 0⟩
structure OwnG (w : World) (B : Nat) (a : Option Addr) (n c : Nat) (l : List PG) : Prop where
 size : l.length = n
 row : w.ownsRow B TG 2 (.slice a n c) n (l.flatMap gc)
structure OwnF (w : World) (B : Nat) (a : Option Addr) (n c : Nat) (l : List PF) : Prop where
 size : l.length = n
 row : w.ownsRow B TF 9 (.slice a n c) n (l.flatMap fc)
theorem infoG : (Tryz.prog.info? TG).map (fun i => (i.zero, i.size, i.bytes)) = some (some (.agg #[.int .i64 0, .int .u64 0]), 2, 16) := by kernel_rfl
theorem infoF : (Tryz.prog.info? TF).map (fun i => (i.zero, i.size, i.bytes)) = some (some (.agg #[.int .i64 0, .int .u64 0, .int .i64 0, .string ⟨#[]⟩, .int .u64 0, .int .i64 0, .string ⟨#[]⟩, .int .u64 0, .int .i64 0]), 9, 88) := by kernel_rfl
theorem VsAt.ofOwn {w : World} {B : Nat} {e : TypeId} {sz : Nat} {a : Option Addr} {n c : Nat} {cs : List Value} (h : w.ownsRow B e sz (.slice a n c) n cs) (hl : cs.length = n * sz) : VsAt sz w a n c cs := by
 obtain ⟨h1, h2, h3, h4⟩ := row_addr h
 refine ⟨hl, h1, h2, h3, fun hp => ?_⟩
 obtain ⟨g, rfl⟩ := h4 hp
 refine ⟨g, 0, rfl, fun j hj => ?_⟩
 rw [Nat.zero_add, h.cellAt j (by omega)]
theorem row_less {w : World} {B B' : Nat} {e : TypeId} {size n : Nat} {v : Value} {xs : List Value} (h : w.ownsRow B e size v n xs) (hB : B' ≤ B) : w.ownsRow B' e size v n xs := by
 refine ⟨h.1, ?_⟩
 rcases h.2 with hn | ⟨g, c, cur, hv, hb, rest⟩
 · exact .inl hn
 · exact .inr ⟨g, c, cur, hv, Nat.le_trans hB hb, rest⟩
section
variable {w w' : World} {B : Nat} {a : Option Addr} {n c : Nat}
theorem OwnG.gs {l : List PG} (h : OwnG w B a n c l) : GsAt w a n c l := ⟨h.size, VsAt.ofOwn h.row (by rw [flat_len gc_len, h.size])⟩
theorem OwnF.fs {l : List PF} (h : OwnF w B a n c l) : FlAt w a n c l := ⟨h.size, VsAt.ofOwn h.row (by rw [flat_len fc_len, h.size])⟩
theorem OwnG.nil (w : World) (B : Nat) : OwnG w B none 0 0 [] := ⟨rfl, World.ownsRow_nil _ _ _ 2⟩
theorem OwnF.nil (w : World) (B : Nat) : OwnF w B none 0 0 [] := ⟨rfl, World.ownsRow_nil _ _ _ 9⟩
theorem OwnG.below {l : List PG} (h : OwnG w B a n c l) (hb : Below w.heap.size w w') : OwnG w' B a n c l := ⟨h.size, row_below h.row hb⟩
theorem OwnF.below {l : List PF} (h : OwnF w B a n c l) (hb : Below w.heap.size w w') : OwnF w' B a n c l := ⟨h.size, row_below h.row hb⟩
theorem OwnG.kept {l : List PG} (h : OwnG w B a n c l) (hk : ∀ k, blkOf a = some k → w'.heap[k]? = w.heap[k]?) : OwnG w' B a n c l := ⟨h.size, row_same h.row (fun b e => hk b (by rw [← own_blk a n c]; exact e))⟩
theorem OwnF.kept {l : List PF} (h : OwnF w B a n c l) (hk : ∀ k, blkOf a = some k → w'.heap[k]? = w.heap[k]?) : OwnF w' B a n c l := ⟨h.size, row_same h.row (fun b e => hk b (by rw [← own_blk a n c]; exact e))⟩
theorem OwnG.tag {l : List PG} (h : OwnG w B a n c l) {k : Nat} (hk : blkOf a = some k) : tag w k = some TG := row_tag h.row (by rw [own_blk]; exact hk)
theorem OwnF.tag {l : List PF} (h : OwnF w B a n c l) {k : Nat} (hk : blkOf a = some k) : tag w k = some TF := row_tag h.row (by rw [own_blk]; exact hk)
theorem OwnG.ge {l : List PG} (h : OwnG w B a n c l) {k : Nat} (hk : blkOf a = some k) : B ≤ k := (h.row.lt k (by rw [own_blk]; exact hk)).1
theorem OwnF.ge {l : List PF} (h : OwnF w B a n c l) {k : Nat} (hk : blkOf a = some k) : B ≤ k := (h.row.lt k (by rw [own_blk]; exact hk)).1
theorem OwnG.less {l : List PG} (h : OwnG w B a n c l) {B' : Nat} (hB : B' ≤ B) : OwnG w B' a n c l := ⟨h.size, row_less h.row hB⟩
theorem OwnF.less {l : List PF} (h : OwnF w B a n c l) {B' : Nat} (hB : B' ≤ B) : OwnF w B' a n c l := ⟨h.size, row_less h.row hB⟩
theorem OwnF.alloc {l : List PF} (h : OwnF w B a n c l) (o : Obj) : OwnF (w.alloc o) B a n c l := ⟨h.size, h.row.alloc o⟩
end
theorem gc_one (l : List PG) : ∀ u ∈ l.flatMap gc, u.oneCell' = true := by
 intro u hu
 obtain ⟨e, _, he⟩ := List.mem_flatMap.1 hu
 simp [gc] at he
 rcases he with rfl | rfl <;> rfl
theorem fc_one (l : List PF) : ∀ u ∈ l.flatMap fc, u.oneCell' = true := by
 intro u hu
 obtain ⟨e, _, he⟩ := List.mem_flatMap.1 hu
 simp [fc] at he
 rcases he with rfl | rfl | rfl | rfl | rfl | rfl | rfl | rfl | rfl <;> rfl
theorem VsAt.src {sz : Nat} {w : World} {a : Option Addr} {n c : Nat} {cs : List Value} (h : VsAt sz w a n c cs) : ∀ ad, a = some ad → ∀ j u, cs[j]? = some u → w.cell? (ad.add j) = some u := by
 rintro ad rfl j u hu
 have hj : j < cs.length := (List.getElem?_eq_some_iff.1 hu).1
 have hs := h.size
 have hn : 0 < n := by
  rcases Nat.eq_zero_or_pos n with h0 | h0
  · subst h0; rw [Nat.zero_mul] at hs; omega
  · exact h0
 obtain ⟨b, off, he, hc⟩ := h.here hn
 obtain rfl := Option.some.inj he
 rw [Addr.add_lit, hc j (by omega)]
 exact hu
theorem wpList_appFl (w : World) {ops : Array Oper} {rest : List Oper} {o : Oper} {a : Act} {Q : Exit → Act → World → Prop} (hgd : o.guard = none) (s x : Operand)
 (ho : o.op = .call { callee := .builtin .append, args := #[s, x], argTypes := #[41, 41] })
 (B : Nat) (a1 : Option Addr) (n1 c1 : Nat) (l : List PF) (hs : a.eval s = .slice a1 n1 c1) (hown : OwnF w B a1 n1 c1 l)
 (a2 : Option Addr) (n2 c2 : Nat) (m : List PF) (hx : a.eval x = .slice a2 n2 c2) (hsrc : FlAt w a2 n2 c2 m)
 (hb : (n1 + n2) * 88 ≤ 140737488355328) (hB : B ≤ w.heap.size)
 (h : ∀ a' c' w', OwnF w' B a' (n1 + n2) c' (l ++ m) → Below B w w' → w.grownBy w' (blkOf a1) → wpList Tryz.prog ops Q rest (a.put o.dst (.slice a' (n1 + n2) c')) w') :
 wpList Tryz.prog ops Q (o :: rest) a w := by
 have hm := hsrc.size
 have hl := hown.size
 refine wpList_appV w hgd s x _ TF ho Tryz.underlying41 _ 9 88 infoF rfl (by decide) B a1 n1 c1 _ hs hown.row a2 n2 c2 (m.flatMap fc) hx (fun e => ?_) (by rw [flat_len fc_len, hm]) hsrc.row.src (fc_one m) (by unfold maxLen; omega) hb hB (fun a' c' w' hr hb hg => h a' c' w' ⟨by rw [List.length_append]; omega, by rw [List.flatMap_append]; exact hr⟩ hb hg)
 have := hsrc.row.bare e
 have := hsrc.row.le
 omega
theorem GsAt.one (W : World) (g : PG) : GsAt (W.alloc (.cells (gA g) TG)) (some ⟨W.heap.size, 0, none⟩) 1 1 [g] := by
 refine ⟨rfl, by simp [gc], Nat.le_refl _, by unfold maxLen; omega, by simp, fun _ => ⟨W.heap.size, 0, rfl, fun j hj => ?_⟩⟩
 rw [Nat.zero_add, (Box.new W TG (gA g)).cell, ← Array.getElem?_toList]
 simp [gA, gc]
theorem FlAt.one (W : World) (f : PF) : FlAt (W.alloc (.cells (fA f) TF)) (some ⟨W.heap.size, 0, none⟩) 1 1 [f] := by
 refine ⟨rfl, by simp [fc], Nat.le_refl _, by unfold maxLen; omega, by simp, fun _ => ⟨W.heap.size, 0, rfl, fun j hj => ?_⟩⟩
 rw [Nat.zero_add, (Box.new W TF (fA f)).cell, ← Array.getElem?_toList]
 simp [fA, fc]
end Go.Proofs.YtmlfbihlbiikeaaGreatDoor
