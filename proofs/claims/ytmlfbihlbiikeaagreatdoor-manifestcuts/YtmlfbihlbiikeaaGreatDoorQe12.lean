/- Records in a log, plainly: pieces, what is laid at a place, what is read; no program is spoken of here. -/
import Derived.Test.YtmlfbihlbiikeaaGreatDoorQe01
import Derived.Test.YtmlfbihlbiikeaaGreatDoorQe08
set_option linter.unusedVariables false
set_option linter.unusedSimpArgs false
set_option maxRecDepth 100000
namespace Go.Proofs.YtmlfbihlbiikeaaGreatDoor

def leftN (p : Nat) : Nat := 128 - p % 128
def padN (p : Nat) : Nat := if leftN p < 7 then leftN p else 0
def roomN (p : Nat) : Nat := if leftN p < 7 then 121 else leftN p - 7
def kindN (first last : Bool) : UInt8 := if first then (if last then 1 else 2) else (if last then 4 else 3)
def sumN (k : UInt8) (b : List UInt8) : Nat := maskN (crc (k :: b))
def pcEnc (k : UInt8) (b : List UInt8) : List UInt8 := fxEnc (sumN k b) 4 ++ (fxEnc b.length 2 ++ k :: b)
theorem pcEnc_length (k : UInt8) (b : List UInt8) : (pcEnc k b).length = 7 + b.length := by
 simp only [pcEnc, List.length_append, fxEnc_length, List.length_cons]
 omega
def nextN (p : Nat) (rest : List UInt8) : Nat := min rest.length (roomN p)
def putF : Nat → Nat → Bool → List UInt8 → List UInt8
 | 0, _, _, _ => []
 | f + 1, p, first, rest =>
  if first = false ∧ rest = [] then []
  else List.replicate (padN p) 0 ++ (pcEnc (kindN first (decide (nextN p rest = rest.length))) (rest.take (nextN p rest)) ++ putF f (p + padN p + 7 + nextN p rest) false (rest.drop (nextN p rest)))
def needN (p : Nat) (first : Bool) (rest : List UInt8) : Nat := 2 * rest.length + (if roomN p = 0 then 1 else 0) + (if first = true then 2 else 0)

theorem leftN_pos (p : Nat) : 1 ≤ leftN p ∧ leftN p ≤ 128 := by unfold leftN; omega
theorem room_pad (p : Nat) : roomN p ≤ 121 ∧ padN p ≤ 6 := by unfold roomN padN leftN; split <;> omega
theorem room_full (p : Nat) : (p + padN p + 7 + roomN p) % 128 = 0 := by
 unfold padN roomN leftN
 split <;> omega
theorem room_start {p : Nat} (h : p % 128 = 0) : roomN p = 121 ∧ padN p = 0 := by unfold roomN padN leftN; rw [h]; decide
theorem next_le (p : Nat) (rest : List UInt8) : nextN p rest ≤ rest.length ∧ nextN p rest ≤ roomN p := by unfold nextN; omega

theorem need_less (p : Nat) (first : Bool) (rest : List UInt8) (h : ¬ (first = false ∧ rest = [])) : needN (p + padN p + 7 + nextN p rest) false (rest.drop (nextN p rest)) < needN p first rest := by
 have hn := next_le p rest
 unfold needN
 rw [List.length_drop]
 by_cases h0 : roomN p = 0
 · have e : nextN p rest = 0 := by omega
   have hf := room_full p
   rw [e]
   rw [h0] at hf
   rw [if_neg (by rw [(room_start hf).1]; omega), if_pos h0]
   simp
   omega
 · rw [if_neg h0]
   have h1 : (if roomN (p + padN p + 7 + nextN p rest) = 0 then 1 else 0) ≤ 1 := by split <;> omega
   cases rest with
   | nil =>
    cases first with
    | false => exact absurd ⟨rfl, rfl⟩ h
    | true =>
     simp only [List.length_nil] at *
     simp
     omega
   | cons c r =>
    have e : 1 ≤ nextN p (c :: r) := by unfold nextN; simp only [List.length_cons]; omega
    simp only [List.length_cons] at *
    simp
    omega

theorem putF_any : ∀ (f g p : Nat) (first : Bool) (rest : List UInt8), needN p first rest < f → needN p first rest < g → putF f p first rest = putF g p first rest
 | 0, _, _, _, _, h, _ => absurd h (Nat.not_lt_zero _)
 | _ + 1, 0, _, _, _, _, h => absurd h (Nat.not_lt_zero _)
 | f + 1, g + 1, p, first, rest, h1, h2 => by
  unfold putF
  by_cases h : first = false ∧ rest = []
  · rw [if_pos h, if_pos h]
  · have hl := need_less p first rest h
    rw [if_neg h, if_neg h, putF_any f g _ false _ (by omega) (by omega)]

def putP (p : Nat) (first : Bool) (rest : List UInt8) : List UInt8 := putF (needN p first rest + 1) p first rest
theorem putP_done (p : Nat) : putP p false [] = [] := by
 unfold putP putF
 rw [if_pos ⟨rfl, rfl⟩]
theorem putP_step (p : Nat) (first : Bool) (rest : List UInt8) (h : ¬ (first = false ∧ rest = [])) :
 putP p first rest = List.replicate (padN p) 0 ++ (pcEnc (kindN first (decide (nextN p rest = rest.length))) (rest.take (nextN p rest)) ++ putP (p + padN p + 7 + nextN p rest) false (rest.drop (nextN p rest))) := by
 have hl := need_less p first rest h
 unfold putP
 rw [putF, if_neg h, putF_any (needN p first rest) (needN (p + padN p + 7 + nextN p rest) false (rest.drop (nextN p rest)) + 1) _ false _ hl (by omega)]
theorem put_ind {C : Nat → Bool → List UInt8 → Prop} (hd : ∀ p, C p false [])
 (hs : ∀ p first rest, ¬ (first = false ∧ rest = []) → C (p + padN p + 7 + nextN p rest) false (rest.drop (nextN p rest)) → C p first rest) :
 ∀ p first rest, C p first rest := by
 have : ∀ (f p : Nat) (first : Bool) (rest : List UInt8), needN p first rest < f → C p first rest := by
  intro f
  induction f with
  | zero => intro p first rest h; exact absurd h (Nat.not_lt_zero _)
  | succ f ih =>
   intro p first rest h
   by_cases h0 : first = false ∧ rest = []
   · obtain ⟨rfl, rfl⟩ := h0
     exact hd p
   · exact hs p first rest h0 (ih _ _ _ (by have := need_less p first rest h0; omega))
 exact fun p first rest => this _ p first rest (Nat.lt_succ_self _)

theorem put_mod : ∀ (p : Nat) (first : Bool) (rest : List UInt8) (q : Nat), p % 128 = q % 128 → putP p first rest = putP q first rest := by
 intro p first rest
 refine put_ind (C := fun p first rest => ∀ q, p % 128 = q % 128 → putP p first rest = putP q first rest) ?_ ?_ p first rest
 · intro p q _
   rw [putP_done, putP_done]
 · intro p first rest h ih q hq
   have e1 : leftN p = leftN q := by unfold leftN; rw [hq]
   have e2 : padN p = padN q := by unfold padN; rw [e1]
   have e3 : nextN p rest = nextN q rest := by unfold nextN roomN; rw [e1]
   rw [putP_step p first rest h, putP_step q first rest h, ih (q + padN q + 7 + nextN q rest) (by rw [e2, e3]; omega), e2, e3]

theorem put_start : ∀ (p : Nat) (first : Bool) (rest : List UInt8), first = false → p % 128 = 0 → (putP p first rest).length ≤ rest.length + 7 * ((rest.length + 120) / 121) := by
 intro p first rest
 refine put_ind (C := fun p first rest => first = false → p % 128 = 0 → (putP p first rest).length ≤ rest.length + 7 * ((rest.length + 120) / 121)) ?_ ?_ p first rest
 · intro p _ _
   rw [putP_done]
   simp
 · intro p first rest h ih hf hp
   have hr := room_start hp
   have hn : nextN p rest = min rest.length 121 := by unfold nextN; rw [hr.1]
   have hne : rest ≠ [] := fun e => h ⟨hf, e⟩
   have hl : 1 ≤ rest.length := List.length_pos_iff.2 hne
   rw [putP_step p first rest h]
   simp only [List.length_append, List.length_replicate, pcEnc_length, List.length_take]
   rw [hr.2]
   by_cases hc : rest.length ≤ 121
   · have e : nextN p rest = rest.length := by omega
     rw [e, List.drop_length, putP_done]
     simp
     omega
   · have e : nextN p rest = 121 := by omega
     have := ih rfl (by rw [e, hr.2]; omega)
     rw [List.length_drop, hr.2] at this
     rw [e] at this ⊢
     omega
theorem put_long : ∀ (p : Nat) (first : Bool) (rest : List UInt8), rest.length + (if first = true then 7 else 0) ≤ (putP p first rest).length := by
 intro p first rest
 refine put_ind (C := fun p first rest => rest.length + (if first = true then 7 else 0) ≤ (putP p first rest).length) ?_ ?_ p first rest
 · intro p
   simp
 · intro p first rest h ih
   have hn := next_le p rest
   rw [putP_step p first rest h]
   simp only [List.length_append, List.length_replicate, pcEnc_length, List.length_take]
   rw [List.length_drop] at ih
   simp at ih
   have : (if first = true then 7 else 0) ≤ 7 := by split <;> omega
   omega
theorem put_short (p : Nat) (rest : List UInt8) : (putP p true rest).length ≤ rest.length + 7 * (rest.length / 121 + 2) + 6 := by
 have hn := next_le p rest
 have hr := room_pad p
 rw [putP_step p true rest (by simp)]
 simp only [List.length_append, List.length_replicate, pcEnc_length, List.length_take]
 by_cases hc : nextN p rest = rest.length
 · rw [hc, List.drop_length, putP_done]
   simp
   omega
 · have e : nextN p rest = roomN p := by unfold nextN at hc ⊢; omega
   have := put_start (p + padN p + 7 + nextN p rest) false (rest.drop (nextN p rest)) rfl (by rw [e]; exact room_full p)
   rw [List.length_drop] at this
   omega

/-! ### Reading -/

structure Pc where
 fault : Nat
 kind : UInt8
 off : Nat
 n : Nat
def Pc.behind (x : Pc) : Nat := x.off + x.n
def Pc.body (b : List UInt8) (x : Pc) : List UInt8 := (b.drop x.off).take x.n
def cntN (b : List UInt8) (p : Nat) : Nat := leNat ((b.drop (p + 4)).take 2)
def pcAt (b : List UInt8) (p : Nat) : Pc :=
 if b.length - p < 7 then ⟨1, 0, 0, 0⟩
 else if leftN p < 7 + cntN b p then ⟨2, 0, 0, 0⟩
 else if b.length - p < 7 + cntN b p then ⟨1, 0, 0, 0⟩
 else if leNat ((b.drop p).take 4) ≠ sumN (b.getD (p + 6) 0) ((b.drop (p + 7)).take (cntN b p)) then (if 7 + cntN b p = b.length - p then ⟨1, 0, 0, 0⟩ else ⟨2, 0, 0, 0⟩)
 else if (b.getD (p + 6) 0).toNat < 1 ∨ 4 < (b.getD (p + 6) 0).toNat then ⟨2, 0, 0, 0⟩
 else ⟨0, b.getD (p + 6) 0, p + 7, cntN b p⟩
def Pc.Ok (len : Nat) (x : Pc) : Prop := (x.fault = 0 ∧ x.off + x.n ≤ len ∧ x.n ≤ 121 ∧ 1 ≤ x.kind.toNat ∧ x.kind.toNat ≤ 4) ∨ (x.fault ≠ 0 ∧ x.fault ≤ 2 ∧ x.kind = 0 ∧ x.off = 0 ∧ x.n = 0)
theorem pcAt_ok (b : List UInt8) (p : Nat) (h : p ≤ b.length) : (pcAt b p).Ok b.length := by
 have hl := leftN_pos p
 unfold pcAt Pc.Ok
 split
 · right; simp
 · split
   · right; simp
   · split
     · right; simp
     · split
       · split
         · right; simp
         · right; simp
       · split
         · right; simp
         · left
           simp only [true_and]
           omega
theorem pcAt_behind (b : List UInt8) (p : Nat) (h : (pcAt b p).fault = 0) : (pcAt b p).off = p + 7 ∧ (pcAt b p).n = cntN b p := by
 unfold pcAt at h ⊢
 split at h
 · simp at h
 · split at h
   · simp at h
   · split at h
     · simp at h
     · split at h
       · split at h <;> simp at h
       · split at h
         · simp at h
         · rename_i h1 h2 h3 h4 h5
           rw [if_neg h1, if_neg h2, if_neg h3, if_neg h4, if_neg h5]
           exact ⟨rfl, rfl⟩
def pcsF : Nat → List UInt8 → Nat → List Pc
 | 0, _, _ => []
 | f + 1, b, p =>
  if b.length ≤ p then []
  else if leftN p < 7 then pcsF f b (p + leftN p)
  else if (pcAt b p).fault ≠ 0 then [pcAt b p]
  else pcAt b p :: pcsF f b (pcAt b p).behind
theorem pcsF_any : ∀ (f g : Nat) (b : List UInt8) (p : Nat), b.length - p ≤ f → b.length - p ≤ g → pcsF f b p = pcsF g b p
 | 0, 0, _, _, _, _ => rfl
 | 0, g + 1, b, p, h, _ => by
  unfold pcsF
  rw [if_pos (by omega)]
 | f + 1, 0, b, p, _, h => by
  unfold pcsF
  rw [if_pos (by omega)]
 | f + 1, g + 1, b, p, h1, h2 => by
  unfold pcsF
  have hl := leftN_pos p
  by_cases h : b.length ≤ p
  · rw [if_pos h, if_pos h]
  · rw [if_neg h, if_neg h]
    by_cases h7 : leftN p < 7
    · rw [if_pos h7, if_pos h7, pcsF_any f g b _ (by omega) (by omega)]
    · rw [if_neg h7, if_neg h7]
      by_cases hf : (pcAt b p).fault ≠ 0
      · rw [if_pos hf, if_pos hf]
      · have hb := pcAt_behind b p (by omega)
        rw [if_neg hf, if_neg hf, pcsF_any f g b _ (by unfold Pc.behind; omega) (by unfold Pc.behind; omega)]
def pcs (b : List UInt8) (p : Nat) : List Pc := pcsF (b.length - p) b p
theorem pcs_end (b : List UInt8) (p : Nat) (h : b.length ≤ p) : pcs b p = [] := by
 unfold pcs
 rw [show b.length - p = 0 by omega, pcsF]
theorem pcs_skip (b : List UInt8) (p : Nat) (h : p < b.length) (h7 : leftN p < 7) : pcs b p = pcs b (p + leftN p) := by
 have hl := leftN_pos p
 unfold pcs
 rw [pcsF_any (b.length - p) (b.length - p + 1) b p (by omega) (by omega), pcsF, if_neg (by omega), if_pos h7]
 exact pcsF_any _ _ b _ (by omega) (by omega)
theorem pcs_bad (b : List UInt8) (p : Nat) (h : p < b.length) (h7 : ¬ leftN p < 7) (hf : (pcAt b p).fault ≠ 0) : pcs b p = [pcAt b p] := by
 unfold pcs
 rw [pcsF_any (b.length - p) (b.length - p + 1) b p (by omega) (by omega), pcsF, if_neg (by omega), if_neg h7, if_pos hf]
theorem pcs_good (b : List UInt8) (p : Nat) (h : p < b.length) (h7 : ¬ leftN p < 7) (hf : (pcAt b p).fault = 0) : pcs b p = pcAt b p :: pcs b (pcAt b p).behind := by
 have hb := pcAt_behind b p hf
 unfold pcs
 rw [pcsF_any (b.length - p) (b.length - p + 1) b p (by omega) (by omega), pcsF, if_neg (by omega), if_neg h7, if_neg (by omega)]
 congr 1
 exact pcsF_any _ _ b _ (by unfold Pc.behind; omega) (by unfold Pc.behind; omega)

def rdL (b : List UInt8) : List Pc → Bool → List UInt8 → List (List UInt8) → Nat → List (List UInt8) × Nat × Nat
 | [], begun, _, rs, size => (rs, size, if begun = true then 1 else 0)
 | x :: l, begun, cur, rs, size =>
  if x.fault ≠ 0 then (rs, size, x.fault)
  else if decide (x.kind.toNat < 3) = begun then (rs, size, 2)
  else if x.kind.toNat = 1 ∨ x.kind.toNat = 4 then rdL b l false [] (rs ++ [cur ++ x.body b]) x.behind
  else rdL b l true (cur ++ x.body b) rs size
def walRead (b : List UInt8) : List (List UInt8) × Nat × Nat := rdL b (pcs b 0) false [] [] 0
end Go.Proofs.YtmlfbihlbiikeaaGreatDoor
namespace Go.Proofs.YtmlfbihlbiikeaaGreatDoor

theorem drop_add {α : Type} (A B : List α) (n : Nat) : (A ++ B).drop (A.length + n) = B.drop n := by
 rw [← List.drop_drop, List.drop_left]
theorem getD_add (A B : List UInt8) (n : Nat) : (A ++ B).getD (A.length + n) 0 = B.getD n 0 := by
 simp [List.getD, List.getElem?_append_right]
theorem pcAt_enc (A C : List UInt8) (k : UInt8) (body : List UInt8) (hk : 1 ≤ k.toNat ∧ k.toNat ≤ 4) (hroom : 7 + body.length ≤ leftN A.length) :
 pcAt (A ++ (pcEnc k body ++ C)) A.length = ⟨0, k, A.length + 7, body.length⟩ := by
 have hl := leftN_pos A.length
 have hb : body.length < 65536 := by omega
 have hs := maskN_lt (crc (k :: body))
 have e4 : (fxEnc (sumN k body) 4).length = 4 := fxEnc_length _ _
 have e2 : (fxEnc body.length 2).length = 2 := fxEnc_length _ _
 have ed : pcEnc k body ++ C = fxEnc (sumN k body) 4 ++ (fxEnc body.length 2 ++ (k :: (body ++ C))) := by simp [pcEnc]
 have hlen : (A ++ (pcEnc k body ++ C)).length - A.length = 7 + body.length + C.length := by
  simp only [List.length_append, pcEnc_length]
  omega
 have hcnt : cntN (A ++ (pcEnc k body ++ C)) A.length = body.length := by
  unfold cntN
  rw [drop_add, ed, List.drop_left' e4, List.take_left' e2, leNat_fxEnc]
  exact Nat.mod_eq_of_lt (by simpa using hb)
 have hsum : leNat (((A ++ (pcEnc k body ++ C)).drop A.length).take 4) = sumN k body := by
  rw [List.drop_left, ed, List.take_append_of_le_length (by omega), List.take_of_length_le (by omega), leNat_fxEnc]
  exact Nat.mod_eq_of_lt (by unfold sumN; simpa using hs)
 have hkind : (A ++ (pcEnc k body ++ C)).getD (A.length + 6) 0 = k := by
  rw [getD_add, ed, ← List.append_assoc, show (6 : Nat) = (fxEnc (sumN k body) 4 ++ fxEnc body.length 2).length + 0 by simp [e4, e2], getD_add]
  rfl
 have hbody : ((A ++ (pcEnc k body ++ C)).drop (A.length + 7)).take body.length = body := by
  rw [drop_add, ed, ← List.append_assoc, show (7 : Nat) = (fxEnc (sumN k body) 4 ++ fxEnc body.length 2).length + 1 by simp [e4, e2], drop_add]
  simp
 unfold pcAt
 rw [hlen, hcnt, hsum, hkind, hbody, if_neg (by omega), if_neg (by omega), if_neg (by omega), if_neg (by simp), if_neg (by omega)]
theorem body_enc (A C : List UInt8) (k : UInt8) (body : List UInt8) : Pc.body (A ++ (pcEnc k body ++ C)) ⟨0, k, A.length + 7, body.length⟩ = body := by
 have e4 : (fxEnc (sumN k body) 4).length = 4 := fxEnc_length _ _
 have e2 : (fxEnc body.length 2).length = 2 := fxEnc_length _ _
 have ed : pcEnc k body ++ C = fxEnc (sumN k body) 4 ++ (fxEnc body.length 2 ++ (k :: (body ++ C))) := by simp [pcEnc]
 unfold Pc.body
 simp only
 rw [drop_add, ed, ← List.append_assoc, show (7 : Nat) = (fxEnc (sumN k body) 4 ++ fxEnc body.length 2).length + 1 by simp [e4, e2], drop_add]
 simp
theorem pcAt_cut (A : List UInt8) (k : UInt8) (body : List UInt8) (n : Nat) (hn : n < 7 + body.length) (hroom : 7 + body.length ≤ leftN A.length) :
 (pcAt (A ++ (pcEnc k body).take n) A.length).fault = 1 := by
 have hl := leftN_pos A.length
 have hb : body.length < 65536 := by omega
 have e4 : (fxEnc (sumN k body) 4).length = 4 := fxEnc_length _ _
 have e2 : (fxEnc body.length 2).length = 2 := fxEnc_length _ _
 have hlen : (A ++ (pcEnc k body).take n).length - A.length = n := by
  simp only [List.length_append, List.length_take, pcEnc_length]
  omega
 unfold pcAt
 rw [hlen]
 by_cases h7 : n < 7
 · rw [if_pos h7]
 · rw [if_neg h7]
   have hcnt : cntN (A ++ (pcEnc k body).take n) A.length = body.length := by
    unfold cntN
    rw [drop_add, List.drop_take, List.take_take, Nat.min_eq_left (by omega)]
    rw [show pcEnc k body = fxEnc (sumN k body) 4 ++ (fxEnc body.length 2 ++ (k :: body)) from rfl, List.drop_left' e4, List.take_left' e2, leNat_fxEnc]
    exact Nat.mod_eq_of_lt (by simpa using hb)
   rw [hcnt, if_neg (by omega), if_pos hn]

theorem kindN_ok (f l : Bool) : 1 ≤ (kindN f l).toNat ∧ (kindN f l).toNat ≤ 4 := by cases f <;> cases l <;> decide
theorem kindN_first (f l : Bool) : decide ((kindN f l).toNat < 3) = f := by cases f <;> cases l <;> decide
theorem kindN_last (f l : Bool) : ((kindN f l).toNat = 1 ∨ (kindN f l).toNat = 4) ↔ l = true := by cases f <;> cases l <;> decide
theorem pad_left (p : Nat) : ¬ leftN (p + padN p) < 7 ∧ roomN p + 7 = leftN (p + padN p) := by
 unfold padN roomN leftN
 split <;> omega
theorem pad_pcs (b : List UInt8) (p : Nat) (h : p + padN p < b.length) : pcs b p = pcs b (p + padN p) := by
 unfold padN at h ⊢
 split
 · rename_i h7
   rw [if_pos h7] at h
   exact pcs_skip b p (by omega) h7
 · rfl

theorem read_put : ∀ (p : Nat) (first : Bool) (rest A C cur : List UInt8) (rs : List (List UInt8)) (size : Nat), A.length = p → ¬ (first = false ∧ rest = []) →
 rdL (A ++ (putP p first rest ++ C)) (pcs (A ++ (putP p first rest ++ C)) p) (!first) cur rs size =
  rdL (A ++ (putP p first rest ++ C)) (pcs (A ++ (putP p first rest ++ C)) (p + (putP p first rest).length)) false [] (rs ++ [cur ++ rest]) (p + (putP p first rest).length) := by
 intro p first rest
 refine put_ind (C := fun p first rest => ∀ (A C cur : List UInt8) (rs : List (List UInt8)) (size : Nat), A.length = p → ¬ (first = false ∧ rest = []) →
  rdL (A ++ (putP p first rest ++ C)) (pcs (A ++ (putP p first rest ++ C)) p) (!first) cur rs size =
   rdL (A ++ (putP p first rest ++ C)) (pcs (A ++ (putP p first rest ++ C)) (p + (putP p first rest).length)) false [] (rs ++ [cur ++ rest]) (p + (putP p first rest).length)) ?_ ?_ p first rest
 · intro p A C cur rs size _ h
   exact absurd ⟨rfl, rfl⟩ h
 · intro p first rest h ih A C cur rs size hA _
   have hn := next_le p rest
   have hpl := pad_left p
   have hstep := putP_step p first rest h
   obtain ⟨n, hnx⟩ : ∃ n, nextN p rest = n := ⟨_, rfl⟩
   obtain ⟨P, hP⟩ : ∃ P, padN p = P := ⟨_, rfl⟩
   rw [hnx] at hn
   rw [hnx, hP] at hstep ih
   rw [hP] at hpl
   obtain ⟨kd, hkd⟩ : ∃ kd, kindN first (decide (n = rest.length)) = kd := ⟨_, rfl⟩
   rw [hkd] at hstep
   have hk := kindN_ok first (decide (n = rest.length))
   have hk1 := kindN_first first (decide (n = rest.length))
   have hk2 := kindN_last first (decide (n = rest.length))
   rw [hkd] at hk hk1 hk2
   obtain ⟨T, hT⟩ : ∃ T, putP (p + P + 7 + n) false (rest.drop n) = T := ⟨_, rfl⟩
   rw [hT] at hstep
   have htl : (rest.take n).length = n := by simp; omega
   obtain ⟨A1, hA1⟩ : ∃ A1, A ++ List.replicate P 0 = A1 := ⟨_, rfl⟩
   have hA1l : A1.length = p + P := by rw [← hA1]; simp [hA]
   have hlog : A ++ (putP p first rest ++ C) = A1 ++ (pcEnc kd (rest.take n) ++ (T ++ C)) := by rw [hstep, ← hA1]; simp
   have hlen : (putP p first rest).length = P + (7 + n) + T.length := by
    rw [hstep]
    simp only [List.length_append, List.length_replicate, pcEnc_length, htl]
    omega
   rw [hlog, hlen]
   have hat : pcAt (A1 ++ (pcEnc kd (rest.take n) ++ (T ++ C))) (p + P) = ⟨0, kd, p + P + 7, n⟩ := by
    have := pcAt_enc A1 (T ++ C) kd (rest.take n) hk (by rw [htl, hA1l]; omega)
    rw [hA1l, htl] at this
    exact this
   have hbd : Pc.body (A1 ++ (pcEnc kd (rest.take n) ++ (T ++ C))) ⟨0, kd, p + P + 7, n⟩ = rest.take n := by
    have := body_enc A1 (T ++ C) kd (rest.take n)
    rw [hA1l, htl] at this
    exact this
   have hlt : p + P < (A1 ++ (pcEnc kd (rest.take n) ++ (T ++ C))).length := by
    simp only [List.length_append, pcEnc_length, hA1l]
    omega
   have hpp := pad_pcs (A1 ++ (pcEnc kd (rest.take n) ++ (T ++ C))) p (by rw [hP]; exact hlt)
   rw [hP] at hpp
   rw [hpp, pcs_good _ _ hlt hpl.1 (by rw [hat]), hat]
   have hbeh : Pc.behind ⟨0, kd, p + P + 7, n⟩ = p + P + 7 + n := rfl
   rw [hbeh, rdL, if_neg (by simp), if_neg (by simp only; rw [hk1]; cases first <;> simp), hbd]
   by_cases hlast : n = rest.length
   · have hT0 : T = [] := by rw [← hT, hlast, List.drop_length, putP_done]
     subst hT0
     rw [if_pos (by simp only; rw [hk2]; simpa using hlast), hbeh]
     rw [show rest.take n = rest by rw [hlast, List.take_length]]
     simp only [List.length_nil, Nat.add_zero]
     rw [show p + (P + (7 + n)) = p + P + 7 + n by omega]
   · rw [if_neg (by simp only; rw [hk2]; simpa using hlast)]
     have hne : ¬ (false = false ∧ rest.drop n = []) := by
      rintro ⟨_, e⟩
      have := congrArg List.length e
      simp at this
      omega
     have hi := ih (A1 ++ pcEnc kd (rest.take n)) C (cur ++ rest.take n) rs size (by simp only [List.length_append, pcEnc_length, hA1l, htl]; omega) hne
     rw [hT] at hi
     simp only [Bool.not_false, List.append_assoc] at hi
     rw [hi]
     simp only [List.take_append_drop]
     rw [show p + P + 7 + n + T.length = p + (P + (7 + n) + T.length) by omega]
end Go.Proofs.YtmlfbihlbiikeaaGreatDoor
namespace Go.Proofs.YtmlfbihlbiikeaaGreatDoor

theorem read_cut : ∀ (p : Nat) (first : Bool) (rest A cur : List UInt8) (rs : List (List UInt8)) (size m : Nat), A.length = p → m < (putP p first rest).length →
 ∃ e, e ≤ 1 ∧ rdL (A ++ (putP p first rest).take m) (pcs (A ++ (putP p first rest).take m) p) (!first) cur rs size = (rs, size, e) := by
 intro p first rest
 refine put_ind (C := fun p first rest => ∀ (A cur : List UInt8) (rs : List (List UInt8)) (size m : Nat), A.length = p → m < (putP p first rest).length →
  ∃ e, e ≤ 1 ∧ rdL (A ++ (putP p first rest).take m) (pcs (A ++ (putP p first rest).take m) p) (!first) cur rs size = (rs, size, e)) ?_ ?_ p first rest
 · intro p A cur rs size m _ h
   rw [putP_done] at h
   exact absurd h (Nat.not_lt_zero _)
 · intro p first rest h ih A cur rs size m hA hm
   have hn := next_le p rest
   have hpl := pad_left p
   have hstep := putP_step p first rest h
   have hskip := pcs_skip
   obtain ⟨n, hnx⟩ : ∃ n, nextN p rest = n := ⟨_, rfl⟩
   obtain ⟨P, hP⟩ : ∃ P, padN p = P := ⟨_, rfl⟩
   rw [hnx] at hn
   rw [hnx, hP] at hstep ih
   rw [hP] at hpl
   obtain ⟨kd, hkd⟩ : ∃ kd, kindN first (decide (n = rest.length)) = kd := ⟨_, rfl⟩
   rw [hkd] at hstep
   have hk := kindN_ok first (decide (n = rest.length))
   have hk1 := kindN_first first (decide (n = rest.length))
   have hk2 := kindN_last first (decide (n = rest.length))
   rw [hkd] at hk hk1 hk2
   obtain ⟨T, hT⟩ : ∃ T, putP (p + P + 7 + n) false (rest.drop n) = T := ⟨_, rfl⟩
   rw [hT] at hstep
   have htl : (rest.take n).length = n := by simp; omega
   have hpe : (pcEnc kd (rest.take n)).length = 7 + n := by rw [pcEnc_length, htl]
   have hlen : (putP p first rest).length = P + (7 + n) + T.length := by
    rw [hstep]
    simp only [List.length_append, List.length_replicate, hpe]
    omega
   rw [hlen] at hm
   have hfin : ∀ bg : Bool, (if bg = true then 1 else 0) ≤ 1 := by intro bg; cases bg <;> simp
   by_cases hc1 : m ≤ P
   · have hb : (A ++ (putP p first rest).take m).length = p + m := by
      rw [List.length_append, List.length_take, hlen, hA]
      omega
     have hnil : pcs (A ++ (putP p first rest).take m) p = [] := by
      by_cases h0 : m = 0
      · exact pcs_end _ _ (by omega)
      · have h7 : leftN p < 7 ∧ leftN p = P := by
         unfold padN at hP
         split at hP
         · exact ⟨by assumption, hP⟩
         · omega
        rw [pcs_skip _ p (by omega) h7.1, h7.2]
        exact pcs_end _ _ (by omega)
     rw [hnil]
     exact ⟨_, hfin (!first), rfl⟩
   · obtain ⟨A1, hA1⟩ : ∃ A1, A ++ List.replicate P 0 = A1 := ⟨_, rfl⟩
     have hA1l : A1.length = p + P := by rw [← hA1]; simp [hA]
     have hlog : A ++ (putP p first rest).take m = A1 ++ (pcEnc kd (rest.take n) ++ T).take (m - P) := by
      rw [hstep, List.take_append, List.length_replicate, List.take_of_length_le (by simp; omega), ← hA1]
      simp
     rw [hlog]
     by_cases hc2 : m - P < 7 + n
     · rw [List.take_append_of_le_length (by omega)]
       have hf := pcAt_cut A1 kd (rest.take n) (m - P) (by omega) (by rw [htl, hA1l]; omega)
       rw [hA1l] at hf
       have hlt : p + P < (A1 ++ (pcEnc kd (rest.take n)).take (m - P)).length := by
        rw [List.length_append, List.length_take, hA1l, hpe]
        omega
       have hpp := pad_pcs (A1 ++ (pcEnc kd (rest.take n)).take (m - P)) p (by rw [hP]; exact hlt)
       rw [hP] at hpp
       rw [hpp, pcs_bad _ _ hlt hpl.1 (by rw [hf]; omega)]
       refine ⟨1, Nat.le_refl _, ?_⟩
       rw [rdL, if_pos (by rw [hf]; omega), hf]
     · have hne : n ≠ rest.length := by
        intro e
        have : T = [] := by rw [← hT, e, List.drop_length, putP_done]
        rw [this] at hm
        simp at hm
        omega
       rw [List.take_append, hpe, List.take_of_length_le (by omega)]
       obtain ⟨m', hm'⟩ : ∃ m', m - P - (7 + n) = m' := ⟨_, rfl⟩
       rw [hm']
       have hat : pcAt (A1 ++ (pcEnc kd (rest.take n) ++ T.take m')) (p + P) = ⟨0, kd, p + P + 7, n⟩ := by
        have := pcAt_enc A1 (T.take m') kd (rest.take n) hk (by rw [htl, hA1l]; omega)
        rw [hA1l, htl] at this
        exact this
       have hbd : Pc.body (A1 ++ (pcEnc kd (rest.take n) ++ T.take m')) ⟨0, kd, p + P + 7, n⟩ = rest.take n := by
        have := body_enc A1 (T.take m') kd (rest.take n)
        rw [hA1l, htl] at this
        exact this
       have hlt : p + P < (A1 ++ (pcEnc kd (rest.take n) ++ T.take m')).length := by
        simp only [List.length_append, hpe, hA1l]
        omega
       have hpp := pad_pcs (A1 ++ (pcEnc kd (rest.take n) ++ T.take m')) p (by rw [hP]; exact hlt)
       rw [hP] at hpp
       rw [hpp, pcs_good _ _ hlt hpl.1 (by rw [hat]), hat]
       have hbeh : Pc.behind ⟨0, kd, p + P + 7, n⟩ = p + P + 7 + n := rfl
       rw [hbeh, rdL, if_neg (by simp), if_neg (by simp only; rw [hk1]; cases first <;> simp), hbd, if_neg (by simp only; rw [hk2]; simpa using hne)]
       have hi := ih (A1 ++ pcEnc kd (rest.take n)) (cur ++ rest.take n) rs size m' (by rw [List.length_append, hpe, hA1l]; omega) (by rw [hT]; omega)
       rw [hT] at hi
       simp only [Bool.not_false, List.append_assoc] at hi
       exact hi

def logFrom : List UInt8 → List (List UInt8) → List UInt8
 | A, [] => A
 | A, r :: rs => logFrom (A ++ putP A.length true r) rs
theorem logFrom_begins : ∀ (rs : List (List UInt8)) (A : List UInt8), ∃ X, logFrom A rs = A ++ X
 | [], A => ⟨[], by simp [logFrom]⟩
 | r :: rs, A => by
  obtain ⟨X, hX⟩ := logFrom_begins rs (A ++ putP A.length true r)
  exact ⟨putP A.length true r ++ X, by rw [logFrom, hX, List.append_assoc]⟩
theorem logFrom_snoc : ∀ (rs : List (List UInt8)) (A r : List UInt8), logFrom A (rs ++ [r]) = logFrom A rs ++ putP (logFrom A rs).length true r
 | [], A, r => rfl
 | x :: rs, A, r => by
  rw [List.cons_append, logFrom, logFrom_snoc rs, logFrom]
theorem read_log : ∀ (rs : List (List UInt8)) (A : List UInt8) (recs : List (List UInt8)) (cut : Nat), A.length ≤ cut → cut ≤ (logFrom A rs).length →
 ∃ j e, j ≤ rs.length ∧ e ≤ 1 ∧ rdL ((logFrom A rs).take cut) (pcs ((logFrom A rs).take cut) A.length) false [] recs A.length = (recs ++ rs.take j, (logFrom A (rs.take j)).length, e) ∧
  (logFrom A (rs.take j)).length ≤ cut ∧ (j = rs.length ∨ cut < (logFrom A (rs.take (j + 1))).length) ∧ (cut = (logFrom A rs).length → j = rs.length ∧ e = 0)
 | [], A, recs, cut, h1, h2 => by
  have hc : cut = A.length := by simp only [logFrom] at h2; omega
  subst hc
  refine ⟨0, 0, Nat.le_refl _, Nat.zero_le _, ?_, Nat.le_refl _, .inl rfl, fun _ => ⟨rfl, rfl⟩⟩
  simp only [logFrom]
  rw [List.take_length, pcs_end _ _ (Nat.le_refl _)]
  simp [rdL, logFrom]
 | r :: rs, A, recs, cut, h1, h2 => by
  have hlong := put_long A.length true r
  obtain ⟨P1, hP1⟩ : ∃ P1, putP A.length true r = P1 := ⟨_, rfl⟩
  rw [hP1] at hlong
  simp at hlong
  obtain ⟨X, hX⟩ := logFrom_begins rs (A ++ P1)
  have hL : logFrom A (r :: rs) = A ++ P1 ++ X := by rw [logFrom, hP1, hX]
  by_cases hc : cut < A.length + P1.length
  · obtain ⟨e, he, hr⟩ := read_cut A.length true r A [] recs A.length (cut - A.length) rfl (by rw [hP1]; omega)
    rw [hP1] at hr
    have hlog : (logFrom A (r :: rs)).take cut = A ++ P1.take (cut - A.length) := by
     rw [hL, List.take_append_of_le_length (by simp; omega), List.take_append, List.take_of_length_le h1]
    refine ⟨0, e, Nat.zero_le _, he, ?_, by simpa [logFrom] using h1, .inr ?_, ?_⟩
    · rw [hlog]
      simpa [logFrom] using hr
    · simp [logFrom, hP1]
      omega
    · intro e2
      rw [hL] at e2
      simp at e2
      omega
  · have hlog : (logFrom A (r :: rs)).take cut = A ++ (P1 ++ X.take (cut - (A ++ P1).length)) := by
     rw [hL, List.take_append, List.take_of_length_le (by simp; omega), List.append_assoc]
    have hr := read_put A.length true r A (X.take (cut - (A ++ P1).length)) [] recs A.length rfl (by simp)
    rw [hP1] at hr
    obtain ⟨j, e, hj, he, hi, hk1, hk2, hk3⟩ := read_log rs (A ++ P1) (recs ++ [r]) cut (by simp; omega) (by rw [logFrom, hP1] at h2; exact h2)
    have hlog2 : (logFrom (A ++ P1) rs).take cut = A ++ (P1 ++ X.take (cut - (A ++ P1).length)) := by
     rw [← hlog, logFrom, hP1]
    refine ⟨j + 1, e, by simp; omega, he, ?_, ?_, ?_, ?_⟩
    · rw [hlog]
      simp only [Bool.not_true, List.nil_append] at hr
      rw [hr]
      rw [hlog2] at hi
      rw [List.length_append] at hi ⊢
      rw [hi, List.take_succ_cons, logFrom, hP1]
      simp
    · rw [List.take_succ_cons, logFrom, hP1]
      exact hk1
    · rcases hk2 with hk2 | hk2
      · exact .inl (by simp [hk2])
      · right
        rw [List.take_succ_cons, logFrom, hP1]
        exact hk2
    · intro e2
      rw [logFrom, hP1] at e2
      have := hk3 e2
      simp only [List.length_cons]
      omega
end Go.Proofs.YtmlfbihlbiikeaaGreatDoor
