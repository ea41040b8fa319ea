/- BumpApart, plainly. -/
import Derived.Test.YtedddgkdpeielaaB6Three
import Derived.Test.YtedddgkdpeielaaB6Awake
namespace Go.Proofs.Ytedddgkdpeielaa
open Go.RowKit
def nOf (x : Int) : Nat := 1 + (if x < 0 then -(x + 1) else x).toNat % 300
theorem nOf_le (x : Int) : 1 ≤ nOf x ∧ nOf x ≤ 300 := by
  unfold nOf
  omega
def nS (S : List Int) (k : Nat) : Nat := nOf (S.getD k 0)
theorem nS_le (S : List Int) (k : Nat) : 1 ≤ nS S k ∧ nS S k ≤ 300 := nOf_le _
def offL (S : List Int) (m : Nat) : Nat → Nat
  | 0 => 0
  | k + 1 => offL S m k + nS S k + (if k < m then 8 else 0)
theorem offL_le (S : List Int) (m : Nat) : ∀ k, offL S m k ≤ 308 * k
  | 0 => Nat.le_refl _
  | k + 1 => by
    have h1 := offL_le S m k
    have h2 := nS_le S k
    unfold offL
    split <;> omega
theorem offL_ge (S : List Int) (m : Nat) : ∀ k, min k m * 8 ≤ offL S m k
  | 0 => by simp
  | k + 1 => by
    have h1 := offL_ge S m k
    unfold offL
    split <;> omega
theorem offL_mono (S : List Int) (m : Nat) {j : Nat} : ∀ {k : Nat}, j < k → offL S m j + nS S j ≤ offL S m k
  | 0, h => absurd h (Nat.not_lt_zero _)
  | k + 1, h => by
    by_cases e : j = k
    · subst e
      simp only [offL]
      omega
    · have := offL_mono S m (j := j) (k := k) (by omega)
      simp only [offL]
      omega
def zB : List UInt8 := List.replicate 65536 0
theorem zB_len : zB.length = 65536 := by unfold zB; rw [List.length_replicate]
def atL (S : List Int) (m k : Nat) : List Int := (List.range k).map fun j => (offL S m j : Int)
def ofL (S : List Int) (k : Nat) : List Int := (List.range k).map fun j => (nS S j : Int)
def idL (n : Nat) : List Int := (List.range n).map fun (j : Nat) => (j : Int)
theorem atL_succ (S : List Int) (m k : Nat) : atL S m (k + 1) = atL S m k ++ [(offL S m k : Int)] := by simp [atL, List.range_succ]
theorem ofL_succ (S : List Int) (k : Nat) : ofL S (k + 1) = ofL S k ++ [(nS S k : Int)] := by simp [ofL, List.range_succ]
theorem idL_succ (k : Nat) : idL (k + 1) = idL k ++ [(k : Int)] := by simp [idL, List.range_succ]
theorem atL_get {S : List Int} {m k j : Nat} (h : j < k) : (atL S m k).getD j 0 = (offL S m j : Int) := by simp [atL, List.getD, h]
theorem ofL_get {S : List Int} {k j : Nat} (h : j < k) : (ofL S k).getD j 0 = (nS S j : Int) := by simp [ofL, List.getD, h]
theorem idL_get {k j : Nat} (h : j < k) : (idL k).getD j 0 = (j : Int) := by simp [idL, List.getD, h]
def apA (S C : List Int) (k : Nat) : PA := ⟨offL S C.length k, zB, C.take k⟩
theorem PA.new_ap (S C : List Int) : PA.new 65536 = apA S C 0 := rfl
theorem apA_alloc (S C : List Int) {k : Nat} (hk : k < 50) : (apA S C k).alloc (nS S k : Int) = ((offL S C.length k : Int), 0, ⟨offL S C.length k + nS S k, zB, C.take k⟩) := by
  have h1 := nS_le S k
  have h2 := offL_le S C.length k
  unfold PA.alloc
  have e : (apA S C k).bytes.length = 65536 := zB_len
  have e2 : (apA S C k).used = offL S C.length k := rfl
  rw [e, e2, if_neg (by omega), if_neg (by omega)]
  rfl
theorem apA_cell (C : List Int) {u k : Nat} (hu : u + 8 ≤ 65536) (hk : k < C.length) : (⟨u, zB, C.take k⟩ : PA).cell = ((k : Int), 0, ⟨u + 8, zB, C.take k ++ [0]⟩) := by
  unfold PA.cell
  have e : (C.take k).length = k := by simp; omega
  simp only [zB_len, e]
  rw [if_neg (by omega)]
theorem apA_store (C : List Int) {u k : Nat} (hk : k < C.length) : (⟨u, zB, C.take k ++ [0]⟩ : PA).store (k : Int) (C.getD k 0) = (0, ⟨u, zB, C.take (k + 1)⟩) := by
  have e : (C.take k).length = k := by simp; omega
  have h : (⟨u, zB, C.take k ++ [0]⟩ : PA).has (k : Int) = true := PA.has_iff.2 ⟨by omega, by simp only [List.length_append, List.length_singleton, e]; omega⟩
  unfold PA.store
  rw [if_pos h]
  simp only [Int.toNat_natCast]
  congr 2
  rw [List.take_add_one, List.getElem?_eq_getElem hk, List.set_append, if_neg (by omega), e]
  simp [List.getD, hk]
theorem apA_more (S C : List Int) {k : Nat} (hk : ¬ k < C.length) : (⟨offL S C.length k + nS S k, zB, C.take k⟩ : PA) = apA S C (k + 1) := by
  unfold apA
  simp only [offL, if_neg hk, Nat.add_zero]
  rw [List.take_of_length_le (by omega), List.take_of_length_le (by omega)]
theorem apA_next (S C : List Int) {k : Nat} (hk : k < C.length) : (⟨offL S C.length k + nS S k + 8, zB, C.take (k + 1)⟩ : PA) = apA S C (k + 1) := by
  unfold apA
  simp only [offL, if_pos hk]
/-- What is laid so far. -/
structure Laid (S : List Int) (m i : Nat) (bytes : List UInt8) : Prop where
  len : bytes.length = 65536
  got : ∀ j, j < i → ∀ t, t < nS S j → bytes.getD (offL S m j + t) 0 = UInt8.ofNat (j + 1)
theorem over_getD {bytes bs : List UInt8} {k : Nat} (h : k + bs.length ≤ bytes.length) (i : Nat) : (bytes.take k ++ bs ++ bytes.drop (k + bs.length)).getD i 0 = if k ≤ i ∧ i < k + bs.length then bs.getD (i - k) 0 else bytes.getD i 0 := by
  have e : (bytes.take k).length = k := by simp; omega
  simp only [List.getD]
  by_cases h1 : i < k
  · rw [if_neg (by omega), List.append_assoc, List.getElem?_append_left (by omega), List.getElem?_take, if_pos h1]
  · by_cases h2 : i < k + bs.length
    · rw [if_pos ⟨by omega, h2⟩, List.getElem?_append_left (by simp; omega), List.getElem?_append_right (by omega), e]
    · rw [if_neg (by omega), List.getElem?_append_right (by simp; omega), List.getElem?_drop]
      congr 2
      simp
      omega
theorem ap_put (S : List Int) {m i K : Nat} {bytes : List UInt8} {cs : List Int} (h : Laid S m i bytes) (hi : i < K) (hK : K ≤ 50) : ∃ b', (⟨offL S m K, bytes, cs⟩ : PA).put (offL S m i : Int) (List.replicate (nS S i) (UInt8.ofNat (i + 1))) = (0, ⟨offL S m K, b', cs⟩) ∧ Laid S m (i + 1) b' := by
  have h1 := offL_mono S m hi
  have h2 := offL_le S m K
  have hl := h.len
  have hf : (⟨offL S m K, bytes, cs⟩ : PA).fits (offL S m i : Int) ((List.replicate (nS S i) (UInt8.ofNat (i + 1))).length : Int) = true := by
    simp only [PA.fits, List.length_replicate]
    simp
    omega
  refine ⟨_, by unfold PA.put; rw [if_pos hf], ?_, fun j hj t ht => ?_⟩
  · rw [over_length (by rw [List.length_replicate, Int.toNat_natCast]; show _ ≤ bytes.length; omega)]
    exact hl
  · rw [over_getD (by rw [List.length_replicate, Int.toNat_natCast]; show _ ≤ bytes.length; omega), List.length_replicate, Int.toNat_natCast]
    by_cases e : j = i
    · subst e
      rw [if_pos (by omega)]
      rw [List.getD, List.getElem?_replicate, if_pos (by omega)]
      rfl
    · have h3 := offL_mono S m (j := j) (k := i) (by omega)
      rw [if_neg (by omega)]
      exact h.got j (by omega) t ht
theorem ap_get (S : List Int) {m i K : Nat} {bytes : List UInt8} {cs : List Int} (h : Laid S m K bytes) (hi : i < K) (hK : K ≤ 50) : ∃ L, (⟨offL S m K, bytes, cs⟩ : PA).get (offL S m i : Int) (nS S i : Int) = (L, 0) ∧ L.length = nS S i ∧ ∀ t, t < nS S i → L.getD t 0 = UInt8.ofNat (i + 1) := by
  have h1 := offL_mono S m hi
  have h2 := offL_le S m K
  have hl := h.len
  have hf : (⟨offL S m K, bytes, cs⟩ : PA).fits (offL S m i : Int) (nS S i : Int) = true := by
    simp only [PA.fits]
    simp
    omega
  refine ⟨_, by unfold PA.get; rw [if_pos hf], ?_, fun t ht => ?_⟩
  · simp
    omega
  · have := h.got i hi t ht
    simp only [List.getD] at this ⊢
    simp only [Int.toNat_natCast, List.getElem?_take, if_pos ht, List.getElem?_drop]
    exact this
theorem ap_load (S : List Int) {m i K : Nat} {bytes : List UInt8} {C : List Int} (hi : i < K) (hm : i < C.length) : (⟨offL S m K, bytes, C.take K⟩ : PA).load (i : Int) = (C.getD i 0, 0) := by
  have h : (⟨offL S m K, bytes, C.take K⟩ : PA).has (i : Int) = true := PA.has_iff.2 ⟨by omega, by simp; omega⟩
  unfold PA.load
  rw [if_pos h]
  simp [List.getD, hi]
end Go.Proofs.Ytedddgkdpeielaa
