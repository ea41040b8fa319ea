/- Records in a log, plainly: pieces, what is laid at a place, what is read; no program is spoken of here. -/
import Derived.Test.YtdhfimolgcnejaaPlainPut
import Derived.Test.YtdhfimolgcnejaaPlainRef
namespace Go.Proofs.Ytdhfimolgcnejaa

/-- How many bytes are left in the block. -/
def leftN (p : Nat) : Nat := 128 - p % 128
/-- How many noughts come first. -/
def padN (p : Nat) : Nat := if leftN p < 7 then leftN p else 0
/-- How many of its own bytes a piece has room for. -/
def roomN (p : Nat) : Nat := if leftN p < 7 then 121 else leftN p - 7
def kindN (first last : Bool) : UInt8 := if first then (if last then 1 else 2) else (if last then 4 else 3)
def sumN (k : UInt8) (b : List UInt8) : Nat := maskN (crc (k :: b))
/-- A piece's bytes. -/
def pcEnc (k : UInt8) (b : List UInt8) : List UInt8 := fxEnc (sumN k b) 4 ++ (fxEnc b.length 2 ++ k :: b)
theorem pcEnc_length (k : UInt8) (b : List UInt8) : (pcEnc k b).length = 7 + b.length := by
  simp only [pcEnc, List.length_append, fxEnc_length, List.length_cons]
  omega
def nextN (p : Nat) (rest : List UInt8) : Nat := min rest.length (roomN p)
/-- What is laid, in so many pieces at most. -/
def putF : Nat → Nat → Bool → List UInt8 → List UInt8
  | 0, _, _, _ => []
  | f + 1, p, first, rest =>
    if first = false ∧ rest = [] then []
    else List.replicate (padN p) 0 ++ (pcEnc (kindN first (decide (nextN p rest = rest.length))) (rest.take (nextN p rest)) ++ putF f (p + padN p + 7 + nextN p rest) false (rest.drop (nextN p rest)))
def needN (p : Nat) (first : Bool) (rest : List UInt8) : Nat := 2 * rest.length + (if roomN p = 0 then 1 else 0) + (if first = true then 2 else 0)

theorem leftN_pos (p : Nat) : 1 ≤ leftN p ∧ leftN p ≤ 128 := by unfold leftN; omega
theorem room_pad (p : Nat) : roomN p ≤ 121 ∧ padN p ≤ 6 := by unfold roomN padN leftN; split <;> omega
/-- Behind a piece that fills the block a block begins. -/
theorem room_full (p : Nat) : (p + padN p + 7 + roomN p) % 128 = 0 := by
  unfold padN roomN leftN
  split <;> omega
theorem room_start {p : Nat} (h : p % 128 = 0) : roomN p = 121 ∧ padN p = 0 := by unfold roomN padN leftN; rw [h]; decide
theorem next_le (p : Nat) (rest : List UInt8) : nextN p rest ≤ rest.length ∧ nextN p rest ≤ roomN p := by unfold nextN; omega

theorem need_less (p : Nat) (first : Bool) (rest : List UInt8) (h : ¬ (first = false ∧ rest = [])) : needN (p + padN p + 7 + nextN p rest) false (rest.drop (nextN p rest)) < needN p first rest := by
  have hn := next_le p rest
  unfold needN
  rw [List.length_drop]
  by_cases h0 : roomN p = 0
  · have e : nextN p rest = 0 := by omega
    have hf := room_full p
    rw [e]
    rw [h0] at hf
    rw [if_neg (by rw [(room_start hf).1]; omega), if_pos h0]
    simp
    omega
  · rw [if_neg h0]
    have h1 : (if roomN (p + padN p + 7 + nextN p rest) = 0 then 1 else 0) ≤ 1 := by split <;> omega
    cases rest with
    | nil =>
      cases first with
      | false => exact absurd ⟨rfl, rfl⟩ h
      | true =>
        simp only [List.length_nil] at *
        simp
        omega
    | cons c r =>
      have e : 1 ≤ nextN p (c :: r) := by unfold nextN; simp only [List.length_cons]; omega
      simp only [List.length_cons] at *
      simp
      omega

theorem putF_any : ∀ (f g p : Nat) (first : Bool) (rest : List UInt8), needN p first rest < f → needN p first rest < g → putF f p first rest = putF g p first rest
  | 0, _, _, _, _, h, _ => absurd h (Nat.not_lt_zero _)
  | _ + 1, 0, _, _, _, _, h => absurd h (Nat.not_lt_zero _)
  | f + 1, g + 1, p, first, rest, h1, h2 => by
    unfold putF
    by_cases h : first = false ∧ rest = []
    · rw [if_pos h, if_pos h]
    · have hl := need_less p first rest h
      rw [if_neg h, if_neg h, putF_any f g _ false _ (by omega) (by omega)]

/-- What is laid of rest at the place p; first: with the record's beginning. -/
def putP (p : Nat) (first : Bool) (rest : List UInt8) : List UInt8 := putF (needN p first rest + 1) p first rest
theorem putP_done (p : Nat) : putP p false [] = [] := by
  unfold putP putF
  rw [if_pos ⟨rfl, rfl⟩]
theorem putP_step (p : Nat) (first : Bool) (rest : List UInt8) (h : ¬ (first = false ∧ rest = [])) :
    putP p first rest = List.replicate (padN p) 0 ++ (pcEnc (kindN first (decide (nextN p rest = rest.length))) (rest.take (nextN p rest)) ++ putP (p + padN p + 7 + nextN p rest) false (rest.drop (nextN p rest))) := by
  have hl := need_less p first rest h
  unfold putP
  rw [putF, if_neg h, putF_any (needN p first rest) (needN (p + padN p + 7 + nextN p rest) false (rest.drop (nextN p rest)) + 1) _ false _ hl (by omega)]
/-- An induction over the pieces. -/
theorem put_ind {C : Nat → Bool → List UInt8 → Prop} (hd : ∀ p, C p false [])
    (hs : ∀ p first rest, ¬ (first = false ∧ rest = []) → C (p + padN p + 7 + nextN p rest) false (rest.drop (nextN p rest)) → C p first rest) :
    ∀ p first rest, C p first rest := by
  have : ∀ (f p : Nat) (first : Bool) (rest : List UInt8), needN p first rest < f → C p first rest := by
    intro f
    induction f with
    | zero => intro p first rest h; exact absurd h (Nat.not_lt_zero _)
    | succ f ih =>
      intro p first rest h
      by_cases h0 : first = false ∧ rest = []
      · obtain ⟨rfl, rfl⟩ := h0
        exact hd p
      · exact hs p first rest h0 (ih _ _ _ (by have := need_less p first rest h0; omega))
  exact fun p first rest => this _ p first rest (Nat.lt_succ_self _)

/-- How a record is laid hangs on its place in the block alone. -/
theorem put_mod : ∀ (p : Nat) (first : Bool) (rest : List UInt8) (q : Nat), p % 128 = q % 128 → putP p first rest = putP q first rest := by
  intro p first rest
  refine put_ind (C := fun p first rest => ∀ q, p % 128 = q % 128 → putP p first rest = putP q first rest) ?_ ?_ p first rest
  · intro p q _
    rw [putP_done, putP_done]
  · intro p first rest h ih q hq
    have e1 : leftN p = leftN q := by unfold leftN; rw [hq]
    have e2 : padN p = padN q := by unfold padN; rw [e1]
    have e3 : nextN p rest = nextN q rest := by unfold nextN roomN; rw [e1]
    rw [putP_step p first rest h, putP_step q first rest h, ih (q + padN q + 7 + nextN q rest) (by rw [e2, e3]; omega), e2, e3]

theorem put_start : ∀ (p : Nat) (first : Bool) (rest : List UInt8), first = false → p % 128 = 0 → (putP p first rest).length ≤ rest.length + 7 * ((rest.length + 120) / 121) := by
  intro p first rest
  refine put_ind (C := fun p first rest => first = false → p % 128 = 0 → (putP p first rest).length ≤ rest.length + 7 * ((rest.length + 120) / 121)) ?_ ?_ p first rest
  · intro p _ _
    rw [putP_done]
    simp
  · intro p first rest h ih hf hp
    have hr := room_start hp
    have hn : nextN p rest = min rest.length 121 := by unfold nextN; rw [hr.1]
    have hne : rest ≠ [] := fun e => h ⟨hf, e⟩
    have hl : 1 ≤ rest.length := List.length_pos_iff.2 hne
    rw [putP_step p first rest h]
    simp only [List.length_append, List.length_replicate, pcEnc_length, List.length_take]
    rw [hr.2]
    by_cases hc : rest.length ≤ 121
    · have e : nextN p rest = rest.length := by omega
      rw [e, List.drop_length, putP_done]
      simp
      omega
    · have e : nextN p rest = 121 := by omega
      have := ih rfl (by rw [e, hr.2]; omega)
      rw [List.length_drop, hr.2] at this
      rw [e] at this ⊢
      omega
theorem put_long : ∀ (p : Nat) (first : Bool) (rest : List UInt8), rest.length + (if first = true then 7 else 0) ≤ (putP p first rest).length := by
  intro p first rest
  refine put_ind (C := fun p first rest => rest.length + (if first = true then 7 else 0) ≤ (putP p first rest).length) ?_ ?_ p first rest
  · intro p
    simp
  · intro p first rest h ih
    have hn := next_le p rest
    rw [putP_step p first rest h]
    simp only [List.length_append, List.length_replicate, pcEnc_length, List.length_take]
    rw [List.length_drop] at ih
    simp at ih
    have : (if first = true then 7 else 0) ≤ 7 := by split <;> omega
    omega
theorem put_short (p : Nat) (rest : List UInt8) : (putP p true rest).length ≤ rest.length + 7 * (rest.length / 121 + 2) + 6 := by
  have hn := next_le p rest
  have hr := room_pad p
  rw [putP_step p true rest (by simp)]
  simp only [List.length_append, List.length_replicate, pcEnc_length, List.length_take]
  by_cases hc : nextN p rest = rest.length
  · rw [hc, List.drop_length, putP_done]
    simp
    omega
  · have e : nextN p rest = roomN p := by unfold nextN at hc ⊢; omega
    have := put_start (p + padN p + 7 + nextN p rest) false (rest.drop (nextN p rest)) rfl (by rw [e]; exact room_full p)
    rw [List.length_drop] at this
    omega

/-! ### Reading -/

/-- A piece that was read: how it went (0: well), its kind, where its own bytes begin, how many they are. -/
structure Pc where
  fault : Nat
  kind : UInt8
  off : Nat
  n : Nat
def Pc.behind (x : Pc) : Nat := x.off + x.n
def Pc.body (b : List UInt8) (x : Pc) : List UInt8 := (b.drop x.off).take x.n
def cntN (b : List UInt8) (p : Nat) : Nat := leNat ((b.drop (p + 4)).take 2)
def pcAt (b : List UInt8) (p : Nat) : Pc :=
  if b.length - p < 7 then ⟨1, 0, 0, 0⟩
  else if leftN p < 7 + cntN b p then ⟨2, 0, 0, 0⟩
  else if b.length - p < 7 + cntN b p then ⟨1, 0, 0, 0⟩
  else if leNat ((b.drop p).take 4) ≠ sumN (b.getD (p + 6) 0) ((b.drop (p + 7)).take (cntN b p)) then (if 7 + cntN b p = b.length - p then ⟨1, 0, 0, 0⟩ else ⟨2, 0, 0, 0⟩)
  else if (b.getD (p + 6) 0).toNat < 1 ∨ 4 < (b.getD (p + 6) 0).toNat then ⟨2, 0, 0, 0⟩
  else ⟨0, b.getD (p + 6) 0, p + 7, cntN b p⟩
/-- What a piece that is read may be. -/
def Pc.Ok (len : Nat) (x : Pc) : Prop := (x.fault = 0 ∧ x.off + x.n ≤ len ∧ x.n ≤ 121 ∧ 1 ≤ x.kind.toNat ∧ x.kind.toNat ≤ 4) ∨ (x.fault ≠ 0 ∧ x.fault ≤ 2 ∧ x.kind = 0 ∧ x.off = 0 ∧ x.n = 0)
theorem pcAt_ok (b : List UInt8) (p : Nat) (h : p ≤ b.length) : (pcAt b p).Ok b.length := by
  have hl := leftN_pos p
  unfold pcAt Pc.Ok
  split
  · right; simp
  · split
    · right; simp
    · split
      · right; simp
      · split
        · split
          · right; simp
          · right; simp
        · split
          · right; simp
          · left
            simp only [true_and]
            omega
theorem pcAt_behind (b : List UInt8) (p : Nat) (h : (pcAt b p).fault = 0) : (pcAt b p).off = p + 7 ∧ (pcAt b p).n = cntN b p := by
  unfold pcAt at h ⊢
  split at h
  · simp at h
  · split at h
    · simp at h
    · split at h
      · simp at h
      · split at h
        · split at h <;> simp at h
        · split at h
          · simp at h
          · rename_i h1 h2 h3 h4 h5
            rw [if_neg h1, if_neg h2, if_neg h3, if_neg h4, if_neg h5]
            exact ⟨rfl, rfl⟩
/-- The pieces from a place on. -/
def pcsF : Nat → List UInt8 → Nat → List Pc
  | 0, _, _ => []
  | f + 1, b, p =>
    if b.length ≤ p then []
    else if leftN p < 7 then pcsF f b (p + leftN p)
    else if (pcAt b p).fault ≠ 0 then [pcAt b p]
    else pcAt b p :: pcsF f b (pcAt b p).behind
theorem pcsF_any : ∀ (f g : Nat) (b : List UInt8) (p : Nat), b.length - p ≤ f → b.length - p ≤ g → pcsF f b p = pcsF g b p
  | 0, 0, _, _, _, _ => rfl
  | 0, g + 1, b, p, h, _ => by
    unfold pcsF
    rw [if_pos (by omega)]
  | f + 1, 0, b, p, _, h => by
    unfold pcsF
    rw [if_pos (by omega)]
  | f + 1, g + 1, b, p, h1, h2 => by
    unfold pcsF
    have hl := leftN_pos p
    by_cases h : b.length ≤ p
    · rw [if_pos h, if_pos h]
    · rw [if_neg h, if_neg h]
      by_cases h7 : leftN p < 7
      · rw [if_pos h7, if_pos h7, pcsF_any f g b _ (by omega) (by omega)]
      · rw [if_neg h7, if_neg h7]
        by_cases hf : (pcAt b p).fault ≠ 0
        · rw [if_pos hf, if_pos hf]
        · have hb := pcAt_behind b p (by omega)
          rw [if_neg hf, if_neg hf, pcsF_any f g b _ (by unfold Pc.behind; omega) (by unfold Pc.behind; omega)]
def pcs (b : List UInt8) (p : Nat) : List Pc := pcsF (b.length - p) b p
theorem pcs_end (b : List UInt8) (p : Nat) (h : b.length ≤ p) : pcs b p = [] := by
  unfold pcs
  rw [show b.length - p = 0 by omega, pcsF]
theorem pcs_skip (b : List UInt8) (p : Nat) (h : p < b.length) (h7 : leftN p < 7) : pcs b p = pcs b (p + leftN p) := by
  have hl := leftN_pos p
  unfold pcs
  rw [pcsF_any (b.length - p) (b.length - p + 1) b p (by omega) (by omega), pcsF, if_neg (by omega), if_pos h7]
  exact pcsF_any _ _ b _ (by omega) (by omega)
theorem pcs_bad (b : List UInt8) (p : Nat) (h : p < b.length) (h7 : ¬ leftN p < 7) (hf : (pcAt b p).fault ≠ 0) : pcs b p = [pcAt b p] := by
  unfold pcs
  rw [pcsF_any (b.length - p) (b.length - p + 1) b p (by omega) (by omega), pcsF, if_neg (by omega), if_neg h7, if_pos hf]
theorem pcs_good (b : List UInt8) (p : Nat) (h : p < b.length) (h7 : ¬ leftN p < 7) (hf : (pcAt b p).fault = 0) : pcs b p = pcAt b p :: pcs b (pcAt b p).behind := by
  have hb := pcAt_behind b p hf
  unfold pcs
  rw [pcsF_any (b.length - p) (b.length - p + 1) b p (by omega) (by omega), pcsF, if_neg (by omega), if_neg h7, if_neg (by omega)]
  congr 1
  exact pcsF_any _ _ b _ (by unfold Pc.behind; omega) (by unfold Pc.behind; omega)

/-- What pieces tell: the records, how many bytes, the end. -/
def rdL (b : List UInt8) : List Pc → Bool → List UInt8 → List (List UInt8) → Nat → List (List UInt8) × Nat × Nat
  | [], begun, _, rs, size => (rs, size, if begun = true then 1 else 0)
  | x :: l, begun, cur, rs, size =>
    if x.fault ≠ 0 then (rs, size, x.fault)
    else if decide (x.kind.toNat < 3) = begun then (rs, size, 2)
    else if x.kind.toNat = 1 ∨ x.kind.toNat = 4 then rdL b l false [] (rs ++ [cur ++ x.body b]) x.behind
    else rdL b l true (cur ++ x.body b) rs size
def walRead (b : List UInt8) : List (List UInt8) × Nat × Nat := rdL b (pcs b 0) false [] [] 0
theorem rdL_more (b : List UInt8) : ∀ (l : List Pc) (begun : Bool) (cur : List UInt8) (rs : List (List UInt8)) (size : Nat), rs.length ≤ (rdL b l begun cur rs size).1.length
  | [], _, _, _, _ => Nat.le_refl _
  | x :: l, begun, cur, rs, size => by
    unfold rdL
    split
    · exact Nat.le_refl _
    · split
      · exact Nat.le_refl _
      · split
        · have := rdL_more b l false [] (rs ++ [cur ++ x.body b]) x.behind
          simp at this
          omega
        · exact rdL_more b l true (cur ++ x.body b) rs size
end Go.Proofs.Ytdhfimolgcnejaa
