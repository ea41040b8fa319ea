/- Plain mathematics of rounding: a number of 64 bits with a point, by a scale that is great enough, is a natural number; no program is spoken of here. -/
import Derived.WalkKit
import Derived.WalkLawsBesides
import Derived.Laws.FloatArith
namespace Go.Proofs.Ytbmimlplicdheaa

/-- V / 2^g, to the nearest, and between two to the even one. -/
def rne (V g : Nat) : Nat := V / 2 ^ g + (if 2 ^ g < 2 * (V % 2 ^ g) ∨ (2 ^ g = 2 * (V % 2 ^ g) ∧ V / 2 ^ g % 2 = 1) then 1 else 0)

theorem rne_scale (V g k : Nat) : rne (V * 2 ^ k) (g + k) = rne V g := by
  have hk : 0 < 2 ^ k := Nat.two_pow_pos k
  unfold rne
  rw [Nat.pow_add, Nat.mul_div_mul_right _ _ hk, Nat.mul_mod_mul_right]
  have e1 : (2 ^ g * 2 ^ k < 2 * (V % 2 ^ g * 2 ^ k)) ↔ (2 ^ g < 2 * (V % 2 ^ g)) := by
    rw [← Nat.mul_assoc]
    exact Nat.mul_lt_mul_right hk
  have e2 : (2 ^ g * 2 ^ k = 2 * (V % 2 ^ g * 2 ^ k)) ↔ (2 ^ g = 2 * (V % 2 ^ g)) := by
    rw [← Nat.mul_assoc]
    exact Nat.mul_left_inj (Nat.pos_iff_ne_zero.1 hk)
  simp only [e1, e2]
theorem rne_zero (V : Nat) : rne V 0 = V := by simp [rne, Nat.mod_one]
theorem rne_whole (V g : Nat) : rne (V * 2 ^ g) g = V := by
  have := rne_scale V 0 g
  rw [Nat.zero_add, rne_zero] at this
  exact this
theorem rne_mono {V V' : Nat} (g : Nat) (h : V ≤ V') : rne V g ≤ rne V' g := by
  have hd : V / 2 ^ g ≤ V' / 2 ^ g := Nat.div_le_div_right h
  unfold rne
  by_cases hlt : V / 2 ^ g < V' / 2 ^ g
  · split <;> split <;> omega
  · have he : V / 2 ^ g = V' / 2 ^ g := by omega
    have hm : V % 2 ^ g ≤ V' % 2 ^ g := by
      have h1 := Nat.div_add_mod V (2 ^ g)
      have h2 := Nat.div_add_mod V' (2 ^ g)
      rw [he] at h1
      omega
    rw [he]
    by_cases hc : 2 ^ g < 2 * (V % 2 ^ g) ∨ (2 ^ g = 2 * (V % 2 ^ g) ∧ V' / 2 ^ g % 2 = 1)
    · rw [if_pos hc, if_pos (by omega)]
      exact Nat.le_refl _
    · rw [if_neg hc]
      omega
theorem rne_le {V a g : Nat} (h : V ≤ 2 ^ (a + g)) : rne V g ≤ 2 ^ a := by
  have := rne_mono g h
  rw [Nat.pow_add, rne_whole] at this
  exact this
theorem rne_ge {V a g : Nat} (h : 2 ^ (a + g) ≤ V) : 2 ^ a ≤ rne V g := by
  have := rne_mono g h
  rw [Nat.pow_add, rne_whole] at this
  exact this
theorem rne_twice (V g : Nat) : rne V g * 2 ^ g ≤ 2 * V := by
  have h1 := Nat.div_add_mod V (2 ^ g)
  unfold rne
  generalize hx : V / 2 ^ g = x at *
  generalize hy : V % 2 ^ g = y at *
  generalize 2 ^ g = p at *
  rw [Nat.mul_comm] at h1
  rw [Nat.add_mul]
  generalize x * p = z at *
  split <;> omega

/-- Cut to a whole number, to the nearest. -/
theorem cut_even (neg : Bool) (n d : Nat) : Ieee.Toward.even.cut neg n d = rne n d := by
  unfold Ieee.Toward.cut rne
  by_cases hd : d ≤ n.log2 + 2
  · simp only [Nat.min_eq_left hd, Nat.one_shiftLeft]
    congr 1
    by_cases h1 : 2 ^ d < 2 * (n % 2 ^ d)
    · simp [h1]
    · by_cases h2 : 2 ^ d = 2 * (n % 2 ^ d)
      · by_cases h3 : n / 2 ^ d % 2 = 1
        · rw [if_pos (.inr ⟨h2, h3⟩)]
          simp [← h2, h3]
        · rw [if_neg (by omega)]
          simp [← h2, h3]
      · rw [if_neg (by omega)]
        simp [h1, h2]
  · have hlt : n < 2 ^ (n.log2 + 1) := Nat.lt_log2_self
    have hp : 2 ^ (n.log2 + 2) = 2 * 2 ^ (n.log2 + 1) := by rw [Nat.pow_succ 2 (n.log2 + 1)]; omega
    have hle : 2 ^ (n.log2 + 2) ≤ 2 ^ d := Nat.pow_le_pow_right (by omega) (by omega)
    simp only [Nat.min_eq_right (show n.log2 + 2 ≤ d by omega), Nat.one_shiftLeft]
    rw [Nat.div_eq_of_lt (show n < 2 ^ (n.log2 + 2) by omega), Nat.mod_eq_of_lt (show n < 2 ^ (n.log2 + 2) by omega), Nat.div_eq_of_lt (show n < 2 ^ d by omega), Nat.mod_eq_of_lt (show n < 2 ^ d by omega)]
    rw [if_neg (by omega)]
    have a1 : decide (2 ^ (n.log2 + 2) < 2 * n) = false := decide_eq_false (by omega)
    have a2 : (2 ^ (n.log2 + 2) == 2 * n) = false := by simp; omega
    simp [a1, a2]
theorem cut_down (n d : Nat) (way : Ieee.Toward) (hw : way = .zero ∨ way = .down) : way.cut false n d = n / 2 ^ d := by
  have key : n / (1 <<< min d (n.log2 + 2)) = n / 2 ^ d := by
    rw [Nat.one_shiftLeft]
    by_cases hd : d ≤ n.log2 + 2
    · rw [Nat.min_eq_left hd]
    · have hlt : n < 2 ^ (n.log2 + 1) := Nat.lt_log2_self
      have hp : 2 ^ (n.log2 + 2) = 2 * 2 ^ (n.log2 + 1) := by rw [Nat.pow_succ 2 (n.log2 + 1)]; omega
      have hle : 2 ^ (n.log2 + 2) ≤ 2 ^ d := Nat.pow_le_pow_right (by omega) (by omega)
      rw [Nat.min_eq_right (by omega), Nat.div_eq_of_lt (by omega), Nat.div_eq_of_lt (by omega)]
  unfold Ieee.Toward.cut
  rcases hw with rfl | rfl
  · simp [key]
  · simp [key]
end Go.Proofs.Ytbmimlplicdheaa
