/- Numbers of 64 bits with a point: what is laid, and read back, is the nearest; all by the scale 2^2148. -/
import Derived.Test.YtbmimlplicdheaaB10Round
namespace Go.Proofs.Ytbmimlplicdheaa
open Ieee

/-- The scale. -/
def KK : Nat := 2148
theorem KK_eq : KK = 2148 := rfl
/-- A number's worth, by the scale. -/
def sv (m : Nat) (i : Int) : Nat := m * 2 ^ (i + KK).toNat
/-- The place of the last bit that is kept. -/
def gV (V : Nat) : Nat := max (V.log2 - 52) 1074
/-- What a worth is rounded to. -/
def RV (V : Nat) : Nat := rne V (gV V) * 2 ^ gV V

theorem log2_mul_pow (m k : Nat) (hm : 0 < m) : (m * 2 ^ k).log2 = m.log2 + k := by
  have h0 : m * 2 ^ k ≠ 0 := Nat.mul_ne_zero (by omega) (Nat.pos_iff_ne_zero.1 (Nat.two_pow_pos k))
  rw [Nat.log2_eq_iff h0]
  have h1 : 2 ^ m.log2 ≤ m := Nat.log2_self_le (by omega)
  have h2 : m < 2 ^ (m.log2 + 1) := Nat.lt_log2_self
  constructor
  · rw [Nat.pow_add]; exact Nat.mul_le_mul_right _ h1
  · rw [show m.log2 + k + 1 = (m.log2 + 1) + k by omega, Nat.pow_add]
    exact Nat.mul_lt_mul_of_pos_right h2 (Nat.two_pow_pos k)
theorem RV_zero : RV 0 = 0 := by
  unfold RV rne
  rw [if_neg (by simp)]
  simp
theorem RV_twice (V : Nat) : RV V ≤ 2 * V := rne_twice _ _
theorem RV_mono {V V' : Nat} (h : V ≤ V') : RV V ≤ RV V' := by
  by_cases h0 : V = 0
  · subst h0; rw [RV_zero]; exact Nat.zero_le _
  have hl : V.log2 ≤ V'.log2 := by
    rw [Nat.le_log2 (by omega)]
    exact Nat.le_trans (Nat.log2_self_le h0) h
  by_cases hg : gV V = gV V'
  · unfold RV
    rw [hg]
    exact Nat.mul_le_mul_right _ (rne_mono _ h)
  · have hlt : gV V < gV V' := by unfold gV at *; omega
    have hn : gV V' + 52 = V'.log2 := by unfold gV at *; omega
    have h1 : rne V (gV V) ≤ 2 ^ 53 := by
      refine rne_le (Nat.le_of_lt ?_)
      refine Nat.lt_of_lt_of_le (Nat.lt_log2_self (n := V)) (Nat.pow_le_pow_right (by omega) ?_)
      unfold gV; omega
    have h2 : 2 ^ 52 ≤ rne V' (gV V') := by
      refine rne_ge ?_
      rw [Nat.add_comm, hn]
      exact Nat.log2_self_le (by omega)
    unfold RV
    calc rne V (gV V) * 2 ^ gV V ≤ 2 ^ 53 * 2 ^ gV V := Nat.mul_le_mul_right _ h1
      _ = 2 ^ (53 + gV V) := (Nat.pow_add 2 53 _).symm
      _ ≤ 2 ^ (52 + gV V') := Nat.pow_le_pow_right (by omega) (by omega)
      _ = 2 ^ 52 * 2 ^ gV V' := Nat.pow_add 2 52 _
      _ ≤ rne V' (gV V') * 2 ^ gV V' := Nat.mul_le_mul_right _ h2
/-- A whole number with few bits stays what it is. -/
theorem RV_whole (n : Nat) (h : n < 2 ^ 53) : RV (n * 2 ^ KK) = n * 2 ^ KK := by
  have hKK := KK_eq
  by_cases h0 : n = 0
  · subst h0; rw [Nat.zero_mul]; exact RV_zero
  have hl : n.log2 < 53 := (Nat.log2_lt h0).2 h
  have hg : gV (n * 2 ^ KK) ≤ KK := by
    unfold gV
    rw [log2_mul_pow n KK (by omega)]
    omega
  unfold RV
  obtain ⟨d, hd⟩ : ∃ d, KK = d + gV (n * 2 ^ KK) := ⟨KK - gV (n * 2 ^ KK), by omega⟩
  generalize hG : gV (n * 2 ^ KK) = G at *
  have e : n * 2 ^ KK = (n * 2 ^ d) * 2 ^ G := by rw [hd, Nat.pow_add, Nat.mul_assoc]
  rw [e, rne_whole]
theorem toInt_num (m : Nat) (i : Int) (hi : -(KK : Int) ≤ i) : (Datum.number false m i).toInt .zero = some ((sv m i / 2 ^ KK : Nat) : Int) := by
  show some (signed false (Toward.cut .zero false (m <<< i.toNat) (-i).toNat) 0) = _
  rw [cut_down _ _ _ (.inl rfl)]
  simp only [signed, Nat.shiftLeft_zero, Bool.false_eq_true, if_false]
  congr 2
  unfold sv
  rw [Nat.shiftLeft_eq]
  by_cases h : 0 ≤ i
  · rw [show (i + KK).toNat = i.toNat + KK by omega, show (-i).toNat = 0 by omega, Nat.pow_add 2 i.toNat, ← Nat.mul_assoc, Nat.mul_div_cancel _ (Nat.two_pow_pos _), Nat.pow_zero, Nat.div_one]
  · obtain ⟨d, hd⟩ : ∃ d, KK = (-i).toNat + d := ⟨KK - (-i).toNat, by omega⟩
    rw [show (i + KK).toNat = d by omega, show i.toNat = 0 by omega, Nat.pow_zero, Nat.mul_one, show (2 : Nat) ^ KK = 2 ^ (-i).toNat * 2 ^ d by rw [← Nat.pow_add, ← hd], Nat.mul_div_mul_right _ _ (Nat.two_pow_pos d)]
theorem integral_num (m : Nat) (i : Int) (hi : -(KK : Int) ≤ i) : (Datum.number false m i).integral .down = .number false (sv m i / 2 ^ KK) 0 := by
  have h1 := toInt_num m i hi
  have e : (Toward.cut .down false (m <<< i.toNat) (-i).toNat) = (Toward.cut .zero false (m <<< i.toNat) (-i).toNat) := by rw [cut_down _ _ _ (.inl rfl), cut_down _ _ _ (.inr rfl)]
  have h2 : some (signed false (Toward.cut .zero false (m <<< i.toNat) (-i).toNat) 0) = some ((sv m i / 2 ^ KK : Nat) : Int) := h1
  simp only [signed, Nat.shiftLeft_zero, Bool.false_eq_true, if_false, Option.some.injEq] at h2
  show Datum.number false (Toward.cut .down false (m <<< i.toNat) (-i).toNat) 0 = _
  rw [e, Int.ofNat.inj h2]

theorem dbl_least : double.leastPlace = -1074 := by decide
theorem dbl_binade : double.binade = 2 ^ 52 := rfl
theorem dbl_inf : double.infRung = 2047 * 2 ^ 52 := by decide
theorem dbl_sign : double.signWeight = 2 ^ 63 := by decide

theorem read_rung (r : Nat) (h : r < 2047 * 2 ^ 52) : ∃ m i, double.read r = .number false m i ∧ -1074 ≤ i ∧ i ≤ 1000000 ∧ m < 2 ^ 53 ∧
    ((r < 2 ^ 52 → m = r ∧ i = -1074) ∧ (2 ^ 52 ≤ r → m = 2 ^ 52 + r % 2 ^ 52 ∧ i = -1074 + (r / 2 ^ 52 - 1 : Nat))) := by
  have hs : r < 2 ^ 63 := by omega
  unfold Format.read
  simp only [dbl_sign, dbl_binade, dbl_inf, dbl_least]
  rw [Nat.div_eq_of_lt hs, Nat.mod_eq_of_lt hs]
  by_cases h1 : r < 2 ^ 52
  · rw [if_pos h1]
    exact ⟨r, -1074, rfl, by omega, by omega, by omega, fun _ => ⟨rfl, rfl⟩, fun h => by omega⟩
  · rw [if_neg h1, if_pos h]
    exact ⟨_, _, rfl, by omega, by omega, by omega, fun h => absurd h h1, fun _ => ⟨rfl, rfl⟩⟩

/-- What is laid is the nearest. -/
theorem nearest_read (m : Nat) (i : Int) (hi : -(KK : Int) ≤ i) (hb : sv m i < 2 ^ 3000) : ∃ m' i', double.read (double.nearest false m i) = .number false m' i' ∧ -1074 ≤ i' ∧ m' < 2 ^ 53 ∧ sv m' i' = RV (sv m i) := by
  have hKK := KK_eq
  by_cases h0 : m = 0
  · subst h0
    have hz : double.nearest false 0 i = 0 := by simp [Format.nearest, Format.word]
    refine ⟨0, -1074, by rw [hz]; decide, by omega, by omega, ?_⟩
    simp only [sv, Nat.zero_mul, RV_zero]
  have hV : sv m i ≠ 0 := Nat.mul_ne_zero h0 (Nat.pos_iff_ne_zero.1 (Nat.two_pow_pos _))
  have hlg : (sv m i).log2 = m.log2 + (i + KK).toNat := log2_mul_pow m _ (by omega)
  have hl3 : (sv m i).log2 < 3000 := (Nat.log2_lt hV).2 hb
  obtain ⟨last, hlast⟩ : ∃ last : Int, last = max (i + m.log2 - 52) (-1074) := ⟨_, rfl⟩
  have hg : (last + KK).toNat = gV (sv m i) := by unfold gV; omega
  have hkept : Toward.even.cut false (m <<< (i - last).toNat) (last - i).toNat = rne (sv m i) (gV (sv m i)) := by
    rw [cut_even, Nat.shiftLeft_eq, ← hg]
    by_cases hc : last ≤ i
    · have := rne_scale (m * 2 ^ (i - last).toNat) 0 (last + KK).toNat
      rw [Nat.zero_add] at this
      rw [show (last - i).toNat = 0 by omega, ← this]
      congr 1
      unfold sv
      rw [Nat.mul_assoc, ← Nat.pow_add]
      congr 2
      omega
    · have := rne_scale m (last - i).toNat (i + KK).toNat
      rw [show (i - last).toNat = 0 by omega, Nat.pow_zero, Nat.mul_one, ← this]
      unfold sv
      congr 1
      omega
  have hk53 : rne (sv m i) (gV (sv m i)) ≤ 2 ^ 53 := by
    refine rne_le (Nat.le_of_lt (Nat.lt_of_lt_of_le (Nat.lt_log2_self (n := sv m i)) (Nat.pow_le_pow_right (by omega) ?_)))
    unfold gV; omega
  have hk52 : -1074 < last → 2 ^ 52 ≤ rne (sv m i) (gV (sv m i)) := by
    intro hl
    refine rne_ge ?_
    rw [show 52 + gV (sv m i) = (sv m i).log2 by unfold gV; omega]
    exact Nat.log2_self_le hV
  have hnear : double.nearest false m i = min ((last - (-1074)).toNat * 2 ^ 52 + rne (sv m i) (gV (sv m i))) (2047 * 2 ^ 52) := by
    unfold Format.nearest
    rw [if_neg h0]
    simp only [dbl_least, dbl_binade, dbl_inf, show (double.fractionBits : Int) = 52 from rfl, ← hlast, hkept, Format.word, Bool.false_eq_true, if_false]
  unfold RV
  rw [hnear]
  rw [← hg] at hk53 hk52 ⊢
  generalize rne (sv m i) (last + KK).toNat = kept at *
  obtain ⟨e, he⟩ : ∃ e : Nat, last = -1074 + e := ⟨(last + 1074).toNat, by omega⟩
  have he2 : e ≤ 1900 := by
    have := hg
    unfold gV at this
    omega
  subst he
  rw [show (-1074 + (e : Int) - (-1074)).toNat = e by omega] at *
  have hr : e * 2 ^ 52 + kept < 2047 * 2 ^ 52 := by omega
  rw [Nat.min_eq_left (by omega)]
  obtain ⟨m', i', h1, h2, _, h4, h5, h6⟩ := read_rung _ hr
  refine ⟨m', i', h1, h2, h4, ?_⟩
  by_cases hs : e * 2 ^ 52 + kept < 2 ^ 52
  · obtain ⟨rfl, rfl⟩ := h5 hs
    obtain rfl : e = 0 := by omega
    unfold sv
    rw [Nat.zero_mul, Nat.zero_add, show ((-1074 : Int) + ((0 : Nat) : Int)) = -1074 from rfl]
  · obtain ⟨rfl, rfl⟩ := h6 (by omega)
    by_cases hk : kept = 2 ^ 53
    · subst hk
      rw [show (e * 2 ^ 52 + 2 ^ 53) % 2 ^ 52 = 0 by omega, show (e * 2 ^ 52 + 2 ^ 53) / 2 ^ 52 = e + 2 by omega]
      unfold sv
      rw [Nat.add_zero, show (-1074 + ((e + 2 - 1 : Nat) : Int) + KK).toNat = 1 + (-1074 + (e : Int) + KK).toNat by omega, Nat.pow_add, ← Nat.mul_assoc]
    · have hk2 : 2 ^ 52 ≤ kept := by
        by_cases hz : e = 0
        · omega
        · exact hk52 (by omega)
      rw [show (e * 2 ^ 52 + kept) % 2 ^ 52 = kept - 2 ^ 52 by omega, show (e * 2 ^ 52 + kept) / 2 ^ 52 = e + 1 by omega]
      unfold sv
      rw [show 2 ^ 52 + (kept - 2 ^ 52) = kept by omega, show (-1074 + ((e + 1 - 1 : Nat) : Int) + KK).toNat = (-1074 + (e : Int) + KK).toNat by omega]
end Go.Proofs.Ytbmimlplicdheaa
