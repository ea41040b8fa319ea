/- Numbers of 64 bits with a point: what is laid, and read back, is the nearest; all by the scale 2^2148. -/
import Derived.Test.YtgegjcnjlibfdaaGreatQa14
import Derived.Test.YtgegjcnjlibfdaaGreatQa00
import Derived.Test.YtgegjcnjlibfdaaGreatChecked
import Derived.Laws.Externs
namespace Go.Proofs.YtgegjcnjlibfdaaGreat
open Ieee

/-- The scale. -/
def KK : Nat := 2148
theorem KK_eq : KK = 2148 := rfl
/-- A number's worth, by the scale. -/
def sv (m : Nat) (i : Int) : Nat := m * 2 ^ (i + KK).toNat
/-- The place of the last bit that is kept. -/
def gV (V : Nat) : Nat := max (V.log2 - 52) 1074
/-- What a worth is rounded to. -/
def RV (V : Nat) : Nat := rne V (gV V) * 2 ^ gV V

theorem log2_mul_pow (m k : Nat) (hm : 0 < m) : (m * 2 ^ k).log2 = m.log2 + k := by
  have h0 : m * 2 ^ k ≠ 0 := Nat.mul_ne_zero (by omega) (Nat.pos_iff_ne_zero.1 (Nat.two_pow_pos k))
  rw [Nat.log2_eq_iff h0]
  have h1 : 2 ^ m.log2 ≤ m := Nat.log2_self_le (by omega)
  have h2 : m < 2 ^ (m.log2 + 1) := Nat.lt_log2_self
  constructor
  · rw [Nat.pow_add]; exact Nat.mul_le_mul_right _ h1
  · rw [show m.log2 + k + 1 = (m.log2 + 1) + k by omega, Nat.pow_add]
    exact Nat.mul_lt_mul_of_pos_right h2 (Nat.two_pow_pos k)
theorem RV_zero : RV 0 = 0 := by
  unfold RV rne
  rw [if_neg (by simp)]
  simp
theorem RV_twice (V : Nat) : RV V ≤ 2 * V := rne_twice _ _
theorem RV_mono {V V' : Nat} (h : V ≤ V') : RV V ≤ RV V' := by
  by_cases h0 : V = 0
  · subst h0; rw [RV_zero]; exact Nat.zero_le _
  have hl : V.log2 ≤ V'.log2 := by
    rw [Nat.le_log2 (by omega)]
    exact Nat.le_trans (Nat.log2_self_le h0) h
  by_cases hg : gV V = gV V'
  · unfold RV
    rw [hg]
    exact Nat.mul_le_mul_right _ (rne_mono _ h)
  · have hlt : gV V < gV V' := by unfold gV at *; omega
    have hn : gV V' + 52 = V'.log2 := by unfold gV at *; omega
    have h1 : rne V (gV V) ≤ 2 ^ 53 := by
      refine rne_le (Nat.le_of_lt ?_)
      refine Nat.lt_of_lt_of_le (Nat.lt_log2_self (n := V)) (Nat.pow_le_pow_right (by omega) ?_)
      unfold gV; omega
    have h2 : 2 ^ 52 ≤ rne V' (gV V') := by
      refine rne_ge ?_
      rw [Nat.add_comm, hn]
      exact Nat.log2_self_le (by omega)
    unfold RV
    calc rne V (gV V) * 2 ^ gV V ≤ 2 ^ 53 * 2 ^ gV V := Nat.mul_le_mul_right _ h1
      _ = 2 ^ (53 + gV V) := (Nat.pow_add 2 53 _).symm
      _ ≤ 2 ^ (52 + gV V') := Nat.pow_le_pow_right (by omega) (by omega)
      _ = 2 ^ 52 * 2 ^ gV V' := Nat.pow_add 2 52 _
      _ ≤ rne V' (gV V') * 2 ^ gV V' := Nat.mul_le_mul_right _ h2
/-- A whole number with few bits stays what it is. -/
theorem RV_whole (n : Nat) (h : n < 2 ^ 53) : RV (n * 2 ^ KK) = n * 2 ^ KK := by
  have hKK := KK_eq
  by_cases h0 : n = 0
  · subst h0; rw [Nat.zero_mul]; exact RV_zero
  have hl : n.log2 < 53 := (Nat.log2_lt h0).2 h
  have hg : gV (n * 2 ^ KK) ≤ KK := by
    unfold gV
    rw [log2_mul_pow n KK (by omega)]
    omega
  unfold RV
  obtain ⟨d, hd⟩ : ∃ d, KK = d + gV (n * 2 ^ KK) := ⟨KK - gV (n * 2 ^ KK), by omega⟩
  generalize hG : gV (n * 2 ^ KK) = G at *
  have e : n * 2 ^ KK = (n * 2 ^ d) * 2 ^ G := by rw [hd, Nat.pow_add, Nat.mul_assoc]
  rw [e, rne_whole]
theorem toInt_num (m : Nat) (i : Int) (hi : -(KK : Int) ≤ i) : (Datum.number false m i).toInt .zero = some ((sv m i / 2 ^ KK : Nat) : Int) := by
  show some (signed false (Toward.cut .zero false (m <<< i.toNat) (-i).toNat) 0) = _
  rw [cut_down _ _ _ (.inl rfl)]
  simp only [signed, Nat.shiftLeft_zero, Bool.false_eq_true, if_false]
  congr 2
  unfold sv
  rw [Nat.shiftLeft_eq]
  by_cases h : 0 ≤ i
  · rw [show (i + KK).toNat = i.toNat + KK by omega, show (-i).toNat = 0 by omega, Nat.pow_add 2 i.toNat, ← Nat.mul_assoc, Nat.mul_div_cancel _ (Nat.two_pow_pos _), Nat.pow_zero, Nat.div_one]
  · obtain ⟨d, hd⟩ : ∃ d, KK = (-i).toNat + d := ⟨KK - (-i).toNat, by omega⟩
    rw [show (i + KK).toNat = d by omega, show i.toNat = 0 by omega, Nat.pow_zero, Nat.mul_one, show (2 : Nat) ^ KK = 2 ^ (-i).toNat * 2 ^ d by rw [← Nat.pow_add, ← hd], Nat.mul_div_mul_right _ _ (Nat.two_pow_pos d)]
theorem integral_num (m : Nat) (i : Int) (hi : -(KK : Int) ≤ i) : (Datum.number false m i).integral .down = .number false (sv m i / 2 ^ KK) 0 := by
  have h1 := toInt_num m i hi
  have e : (Toward.cut .down false (m <<< i.toNat) (-i).toNat) = (Toward.cut .zero false (m <<< i.toNat) (-i).toNat) := by rw [cut_down _ _ _ (.inl rfl), cut_down _ _ _ (.inr rfl)]
  have h2 : some (signed false (Toward.cut .zero false (m <<< i.toNat) (-i).toNat) 0) = some ((sv m i / 2 ^ KK : Nat) : Int) := h1
  simp only [signed, Nat.shiftLeft_zero, Bool.false_eq_true, if_false, Option.some.injEq] at h2
  show Datum.number false (Toward.cut .down false (m <<< i.toNat) (-i).toNat) 0 = _
  rw [e, Int.ofNat.inj h2]

theorem dbl_least : double.leastPlace = -1074 := by decide
theorem dbl_binade : double.binade = 2 ^ 52 := rfl
theorem dbl_inf : double.infRung = 2047 * 2 ^ 52 := by decide
theorem dbl_sign : double.signWeight = 2 ^ 63 := by decide

theorem read_rung (r : Nat) (h : r < 2047 * 2 ^ 52) : ∃ m i, double.read r = .number false m i ∧ -1074 ≤ i ∧ i ≤ 1000000 ∧ m < 2 ^ 53 ∧
    ((r < 2 ^ 52 → m = r ∧ i = -1074) ∧ (2 ^ 52 ≤ r → m = 2 ^ 52 + r % 2 ^ 52 ∧ i = -1074 + (r / 2 ^ 52 - 1 : Nat))) := by
  have hs : r < 2 ^ 63 := by omega
  unfold Format.read
  simp only [dbl_sign, dbl_binade, dbl_inf, dbl_least]
  rw [Nat.div_eq_of_lt hs, Nat.mod_eq_of_lt hs]
  by_cases h1 : r < 2 ^ 52
  · rw [if_pos h1]
    exact ⟨r, -1074, rfl, by omega, by omega, by omega, fun _ => ⟨rfl, rfl⟩, fun h => by omega⟩
  · rw [if_neg h1, if_pos h]
    exact ⟨_, _, rfl, by omega, by omega, by omega, fun h => absurd h h1, fun _ => ⟨rfl, rfl⟩⟩

/-- What is laid is the nearest. -/
theorem nearest_read (m : Nat) (i : Int) (hi : -(KK : Int) ≤ i) (hb : sv m i < 2 ^ 3000) : ∃ m' i', double.read (double.nearest false m i) = .number false m' i' ∧ -1074 ≤ i' ∧ m' < 2 ^ 53 ∧ sv m' i' = RV (sv m i) := by
  have hKK := KK_eq
  by_cases h0 : m = 0
  · subst h0
    have hz : double.nearest false 0 i = 0 := by simp [Format.nearest, Format.word]
    refine ⟨0, -1074, by rw [hz]; decide, by omega, by omega, ?_⟩
    simp only [sv, Nat.zero_mul, RV_zero]
  have hV : sv m i ≠ 0 := Nat.mul_ne_zero h0 (Nat.pos_iff_ne_zero.1 (Nat.two_pow_pos _))
  have hlg : (sv m i).log2 = m.log2 + (i + KK).toNat := log2_mul_pow m _ (by omega)
  have hl3 : (sv m i).log2 < 3000 := (Nat.log2_lt hV).2 hb
  obtain ⟨last, hlast⟩ : ∃ last : Int, last = max (i + m.log2 - 52) (-1074) := ⟨_, rfl⟩
  have hg : (last + KK).toNat = gV (sv m i) := by unfold gV; omega
  have hkept : Toward.even.cut false (m <<< (i - last).toNat) (last - i).toNat = rne (sv m i) (gV (sv m i)) := by
    rw [cut_even, Nat.shiftLeft_eq, ← hg]
    by_cases hc : last ≤ i
    · have := rne_scale (m * 2 ^ (i - last).toNat) 0 (last + KK).toNat
      rw [Nat.zero_add] at this
      rw [show (last - i).toNat = 0 by omega, ← this]
      congr 1
      unfold sv
      rw [Nat.mul_assoc, ← Nat.pow_add]
      congr 2
      omega
    · have := rne_scale m (last - i).toNat (i + KK).toNat
      rw [show (i - last).toNat = 0 by omega, Nat.pow_zero, Nat.mul_one, ← this]
      unfold sv
      congr 1
      omega
  have hk53 : rne (sv m i) (gV (sv m i)) ≤ 2 ^ 53 := by
    refine rne_le (Nat.le_of_lt (Nat.lt_of_lt_of_le (Nat.lt_log2_self (n := sv m i)) (Nat.pow_le_pow_right (by omega) ?_)))
    unfold gV; omega
  have hk52 : -1074 < last → 2 ^ 52 ≤ rne (sv m i) (gV (sv m i)) := by
    intro hl
    refine rne_ge ?_
    rw [show 52 + gV (sv m i) = (sv m i).log2 by unfold gV; omega]
    exact Nat.log2_self_le hV
  have hnear : double.nearest false m i = min ((last - (-1074)).toNat * 2 ^ 52 + rne (sv m i) (gV (sv m i))) (2047 * 2 ^ 52) := by
    unfold Format.nearest
    rw [if_neg h0]
    simp only [dbl_least, dbl_binade, dbl_inf, show (double.fractionBits : Int) = 52 from rfl, ← hlast, hkept, Format.word, Bool.false_eq_true, if_false]
  unfold RV
  rw [hnear]
  rw [← hg] at hk53 hk52 ⊢
  generalize rne (sv m i) (last + KK).toNat = kept at *
  obtain ⟨e, he⟩ : ∃ e : Nat, last = -1074 + e := ⟨(last + 1074).toNat, by omega⟩
  have he2 : e ≤ 1900 := by
    have := hg
    unfold gV at this
    omega
  subst he
  rw [show (-1074 + (e : Int) - (-1074)).toNat = e by omega] at *
  have hr : e * 2 ^ 52 + kept < 2047 * 2 ^ 52 := by omega
  rw [Nat.min_eq_left (by omega)]
  obtain ⟨m', i', h1, h2, _, h4, h5, h6⟩ := read_rung _ hr
  refine ⟨m', i', h1, h2, h4, ?_⟩
  by_cases hs : e * 2 ^ 52 + kept < 2 ^ 52
  · obtain ⟨rfl, rfl⟩ := h5 hs
    obtain rfl : e = 0 := by omega
    unfold sv
    rw [Nat.zero_mul, Nat.zero_add, show ((-1074 : Int) + ((0 : Nat) : Int)) = -1074 from rfl]
  · obtain ⟨rfl, rfl⟩ := h6 (by omega)
    by_cases hk : kept = 2 ^ 53
    · subst hk
      rw [show (e * 2 ^ 52 + 2 ^ 53) % 2 ^ 52 = 0 by omega, show (e * 2 ^ 52 + 2 ^ 53) / 2 ^ 52 = e + 2 by omega]
      unfold sv
      rw [Nat.add_zero, show (-1074 + ((e + 2 - 1 : Nat) : Int) + KK).toNat = 1 + (-1074 + (e : Int) + KK).toNat by omega, Nat.pow_add, ← Nat.mul_assoc]
    · have hk2 : 2 ^ 52 ≤ kept := by
        by_cases hz : e = 0
        · omega
        · exact hk52 (by omega)
      rw [show (e * 2 ^ 52 + kept) % 2 ^ 52 = kept - 2 ^ 52 by omega, show (e * 2 ^ 52 + kept) / 2 ^ 52 = e + 1 by omega]
      unfold sv
      rw [show 2 ^ 52 + (kept - 2 ^ 52) = kept by omega, show (-1074 + ((e + 1 - 1 : Nat) : Int) + KK).toNat = (-1074 + (e : Int) + KK).toNat by omega]
end Go.Proofs.YtgegjcnjlibfdaaGreat
/- How many bits a key is given: what may be, and what is reckoned with it. -/
namespace Go.Proofs.YtgegjcnjlibfdaaGreat
open Ieee

theorem read_num {b : Nat} {s : Bool} {m : Nat} {i : Int} (h : double.read b = .number s m i) : m < 2 ^ 53 ∧ -1074 ≤ i := by
  unfold Format.read at h
  simp only [dbl_binade, dbl_least] at h
  split at h
  · cases h; omega
  · split at h
    · cases h; omega
    · split at h <;> cases h
theorem read0 : double.read 0 = .number false 0 (-1074) := by decide
theorem read50 : double.read 4632233691727265792 = .number false (50 * 2 ^ 47) (-47) := by decide
theorem read69 : double.read 4604390187031047700 = .number false 6214967485771284 (-53) := by decide
/-- The bits' worth, by the scale. -/
def bitsV (b : Nat) : Nat := match double.read b with | .number _ m i => sv m i | _ => 0
def bitsV69 (b : Nat) : Nat := match double.read b with | .number _ m i => sv (m * 6214967485771284) (i - 53) | _ => 0
/-- 0.69 times bits, and bits times so many, rounded down. -/
def fl69 (b : Nat) : Nat := RV (bitsV69 b) / 2 ^ KK
def flN (b n : Nat) : Nat := RV (bitsV b * n) / 2 ^ KK
def prN (b : Nat) : Nat := max 1 (fl69 b)
def szN (b n : Nat) : Nat := (max 64 (flN b n) + 7) / 8
/-- Bits that may be. -/
def okB (b : Nat) : Bool := (FloatKind.f64.format.order b 0 == some .gt) && (FloatKind.f64.format.order b 4632233691727265792 == some .lt || FloatKind.f64.format.order b 4632233691727265792 == some .eq)

theorem sv_scale (m : Nat) (i base : Int) (hb : -(KK : Int) ≤ base) (hi : base ≤ i) : sv m i = m <<< (i - base).toNat * 2 ^ (base + KK).toNat := by
  unfold sv
  rw [Nat.shiftLeft_eq, Nat.mul_assoc, ← Nat.pow_add]
  congr 2
  omega
theorem ok_read {b : Nat} (h : okB b = true) : ∃ m i, double.read b = .number false m i ∧ -1074 ≤ i ∧ m < 2 ^ 53 ∧ sv m i ≤ 50 * 2 ^ KK := by
  have hKK := KK_eq
  unfold okB at h
  rw [show FloatKind.f64.format = double from rfl] at h
  simp only [Bool.and_eq_true, Bool.or_eq_true, beq_iff_eq] at h
  obtain ⟨h1, h2⟩ := h
  unfold Format.order at h1 h2
  rw [read0] at h1
  rw [read50] at h2
  cases hr : double.read b with
  | nan s f => rw [hr] at h1; simp [Datum.order] at h1
  | infinity s => rw [hr] at h1 h2; cases s <;> simp [Datum.order] at h1 h2
  | number s m i =>
    obtain ⟨hm, hi⟩ := read_num hr
    rw [hr] at h1 h2
    simp only [Datum.order] at h1 h2
    have hs : s = false := by
      cases s with
      | false => rfl
      | true =>
        exfalso
        have h1' := Option.some.inj h1
        rw [Int.compare_eq_gt] at h1'
        have a1 : signed true m (i - min i (-1074)).toNat ≤ 0 := by
          unfold signed
          rw [if_pos rfl]
          generalize m <<< (i - min i (-1074)).toNat = q
          omega
        have a2 : signed false 0 (-1074 - min i (-1074)).toNat = 0 := by
          unfold signed
          rw [Nat.zero_shiftLeft]
          rfl
        omega
    subst hs
    refine ⟨m, i, rfl, hi, hm, ?_⟩
    have h2' : signed false m (i - min i (-47)).toNat ≤ signed false (50 * 2 ^ 47) (-47 - min i (-47)).toNat := by
      rcases h2 with h2 | h2
      · have := Option.some.inj h2
        rw [Int.compare_eq_lt] at this
        omega
      · have := Option.some.inj h2
        rw [Int.compare_eq_eq] at this
        omega
    simp only [signed, Bool.false_eq_true, if_false] at h2'
    have h3 := Int.ofNat_le.1 h2'
    have h4 := Nat.mul_le_mul_right (2 ^ (min i (-47) + (KK : Int)).toNat) h3
    rw [← sv_scale m i _ (by omega) (by omega), ← sv_scale (50 * 2 ^ 47) (-47) _ (by omega) (by omega)] at h4
    refine Nat.le_trans h4 ?_
    unfold sv
    rw [Nat.mul_assoc, ← Nat.pow_add, show 47 + ((-47 : Int) + (KK : Int)).toNat = KK by omega]
    exact Nat.le_refl _
theorem pow_le_3000 (c : Nat) (hc : c < 2 ^ 200) : c * 2 ^ KK < 2 ^ 3000 := by
  have hKK := KK_eq
  have h1 : c * 2 ^ KK < 2 ^ 200 * 2 ^ KK := Nat.mul_lt_mul_of_pos_right hc (Nat.two_pow_pos _)
  rw [← Nat.pow_add] at h1
  have h2 : 200 + KK ≤ 3000 := by omega
  have h3 := Nat.pow_le_pow_right (n := 2) Nat.zero_lt_two h2
  exact Nat.lt_of_lt_of_le h1 h3
/-- What is read of a word: a number that is not below nought. -/
def Fl (x V : Nat) : Prop := ∃ m i, double.read x = .number false m i ∧ -1074 ≤ i ∧ sv m i = V
theorem fl_near (m : Nat) (i : Int) (hi : -(KK : Int) ≤ i) (hb : sv m i < 2 ^ 3000) : Fl (double.nearest false m i) (RV (sv m i)) := by
  obtain ⟨m', i', h1, h2, _, h4⟩ := nearest_read m i hi hb
  exact ⟨m', i', h1, h2, h4⟩
theorem fl_mul {x y X Y Z : Nat} (hx : Fl x X) (hy : Fl y Y) (hZ : Z * 2 ^ KK = X * Y) (hb : Z < 2 ^ 3000) : ∃ r, floatBits .mul .f64 x y = some r ∧ Fl r (RV Z) := by
  have hKK := KK_eq
  obtain ⟨m, i, h1, h2, rfl⟩ := hx
  obtain ⟨n, j, h3, h4, rfl⟩ := hy
  have e : sv (m * n) (i + j) = Z := by
    refine Nat.eq_of_mul_eq_mul_right (Nat.two_pow_pos KK) ?_
    rw [hZ]
    unfold sv
    have e1 : (i + j + (KK : Int)).toNat + KK = (i + (KK : Int)).toNat + (j + (KK : Int)).toNat := by omega
    rw [Nat.mul_assoc, ← Nat.pow_add, e1, Nat.mul_mul_mul_comm, ← Nat.pow_add]
  refine ⟨double.nearest false (m * n) (i + j), ?_, ?_⟩
  · show double.mul x y = _
    unfold Format.mul
    rw [h1, h3]
    rfl
  · rw [← e]
    exact fl_near _ _ (by omega) (by rw [e]; exact hb)
theorem mul_comm_fl (x y : Nat) {X Y : Nat} (hx : Fl x X) (hy : Fl y Y) : floatBits .mul .f64 x y = floatBits .mul .f64 y x := by
  obtain ⟨m, i, h1, h2, rfl⟩ := hx
  obtain ⟨n, j, h3, h4, rfl⟩ := hy
  show double.mul x y = double.mul y x
  unfold Format.mul
  rw [h1, h3]
  show some (double.nearest false (m * n) (i + j)) = some (double.nearest false (n * m) (j + i))
  rw [Nat.mul_comm, Int.add_comm]
theorem fl_int {n : Nat} (h : n < 2 ^ 53) : Fl (floatOfInt .f64 (n : Int)) (n * 2 ^ KK) := by
  have hKK := KK_eq
  have e : sv n 0 = n * 2 ^ KK := by
    unfold sv
    rw [show ((0 : Int) + (KK : Int)).toNat = KK by omega]
  have hlt : sv n 0 < 2 ^ 3000 := by rw [e]; exact pow_le_3000 n (Nat.lt_of_lt_of_le h (Nat.pow_le_pow_right (by omega) (by omega)))
  have := fl_near n 0 (by omega) hlt
  rw [e, RV_whole n h] at this
  have e2 : floatOfInt .f64 (n : Int) = double.nearest false n 0 := by
    show double.nearest (decide ((n : Int) < 0)) (n : Int).natAbs 0 = _
    rw [decide_eq_false (by omega), Int.natAbs_natCast]
  rw [e2]
  exact this
/-- Cut to an int. -/
theorem fl_toInt {x V : Nat} (h : Fl x V) (hb : V / 2 ^ KK < 2 ^ 63) : floatToIntVal .f64 x .i64 = some ((V / 2 ^ KK : Nat) : Int) := by
  have hKK := KK_eq
  obtain ⟨m, i, h1, h2, rfl⟩ := h
  unfold floatToIntVal
  rw [show FloatKind.decode .f64 x = _ from h1, toInt_num m i (by omega)]
  generalize sv m i / 2 ^ KK = q at hb ⊢
  simp only
  rw [if_pos ⟨by simp [IntKind.min, IntKind.signed, IntKind.bits], by simp [IntKind.max, IntKind.signed, IntKind.bits]; omega⟩]
/-- Rounded down. -/
def flDown (x : Nat) : Nat := FloatKind.f64.encode ((FloatKind.f64.decode x).integral .down)
theorem fl_down {x V : Nat} (h : Fl x V) (hb : V / 2 ^ KK < 2 ^ 53) : Fl (flDown x) (V / 2 ^ KK * 2 ^ KK) := by
  have hKK := KK_eq
  obtain ⟨m, i, h1, h2, rfl⟩ := h
  have e : flDown x = floatOfInt .f64 ((sv m i / 2 ^ KK : Nat) : Int) := by
    unfold flDown
    rw [show FloatKind.decode .f64 x = _ from h1, integral_num m i (by omega)]
    generalize sv m i / 2 ^ KK = q
    show double.nearest false _ 0 = double.nearest (decide ((q : Int) < 0)) (q : Int).natAbs 0
    rw [decide_eq_false (by omega), Int.natAbs_natCast]
  rw [e]
  exact fl_int hb
theorem div_scale (n : Nat) : n * 2 ^ KK / 2 ^ KK = n := Nat.mul_div_cancel _ (Nat.two_pow_pos _)

/-- All that is reckoned with bits that may be, and so many keys. -/
theorem ok_facts {b : Nat} (h : okB b = true) (n : Nat) (hn : n ≤ 2 ^ 44) : ∃ x y : Nat,
    floatBits .mul .f64 4604390187031047700 b = some x ∧ floatBits .mul .f64 b 4604390187031047700 = some x ∧ floatToIntVal .f64 x .i64 = some (fl69 b : Int) ∧ floatToIntVal .f64 (flDown x) .i64 = some (fl69 b : Int) ∧ fl69 b ≤ 100 ∧ (FloatKind.f64.decode x).isNaN = false ∧
    floatBits .mul .f64 b (floatOfInt .f64 (n : Int)) = some y ∧ floatToIntVal .f64 y .i64 = some (flN b n : Int) ∧ floatToIntVal .f64 (flDown y) .i64 = some (flN b n : Int) ∧ flN b n ≤ 100 * n ∧ (FloatKind.f64.decode y).isNaN = false := by
  have hKK := KK_eq
  obtain ⟨m, i, h1, h2, h3, h4⟩ := ok_read h
  have hv : bitsV b = sv m i := by unfold bitsV; rw [h1]
  have hv69 : bitsV69 b = sv (m * 6214967485771284) (i - 53) := by unfold bitsV69; rw [h1]
  have hbF : Fl b (sv m i) := ⟨m, i, h1, h2, rfl⟩
  have h69F : Fl 4604390187031047700 (sv 6214967485771284 (-53)) := ⟨_, _, read69, by omega, rfl⟩
  have e69 : bitsV69 b * 2 ^ KK = sv 6214967485771284 (-53) * sv m i := by
    rw [hv69]
    unfold sv
    have e1 : (i - 53 + (KK : Int)).toNat + KK = ((-53 : Int) + (KK : Int)).toNat + (i + (KK : Int)).toNat := by omega
    rw [Nat.mul_comm m, Nat.mul_assoc, ← Nat.pow_add, e1, Nat.mul_mul_mul_comm, ← Nat.pow_add]
  have hle69 : bitsV69 b ≤ 50 * 2 ^ KK := by
    refine Nat.le_trans ?_ h4
    rw [hv69]
    unfold sv
    rw [Nat.mul_assoc]
    refine Nat.mul_le_mul_left _ ?_
    have : 6214967485771284 ≤ 2 ^ 53 := by omega
    refine Nat.le_trans (Nat.mul_le_mul_right _ this) ?_
    rw [← Nat.pow_add]
    exact Nat.pow_le_pow_right (by omega) (by omega)
  have hP := Nat.two_pow_pos KK
  have hd69 : fl69 b ≤ 100 := by
    unfold fl69
    rw [Nat.div_le_iff_le_mul_add_pred hP]
    have := RV_twice (bitsV69 b)
    omega
  have hleN : bitsV b * n ≤ 50 * n * 2 ^ KK := by
    rw [hv, Nat.mul_right_comm 50]
    exact Nat.mul_le_mul_right _ h4
  have hdN : flN b n ≤ 100 * n := by
    unfold flN
    rw [Nat.div_le_iff_le_mul_add_pred hP]
    have := RV_twice (bitsV b * n)
    have e : 2 * (50 * n * 2 ^ KK) = 2 ^ KK * (100 * n) := by rw [← Nat.mul_assoc, ← Nat.mul_assoc, Nat.mul_comm]
    omega
  obtain ⟨x, hx1, hx2⟩ := fl_mul h69F hbF e69 (Nat.lt_of_le_of_lt hle69 (pow_le_3000 50 (by omega)))
  have eN : (bitsV b * n) * 2 ^ KK = sv m i * (n * 2 ^ KK) := by rw [hv, Nat.mul_assoc]
  have hc8 : 50 * n < 2 ^ 200 := Nat.lt_of_lt_of_le (show 50 * n < 2 ^ 50 by omega) (Nat.pow_le_pow_right (by omega) (by omega))
  obtain ⟨y, hy1, hy2⟩ := fl_mul hbF (fl_int (n := n) (by omega)) eN (Nat.lt_of_le_of_lt hleN (pow_le_3000 _ hc8))
  have nn : ∀ {z V : Nat}, Fl z V → (FloatKind.f64.decode z).isNaN = false := by
    rintro z V ⟨m', i', hz, _, _⟩
    rw [show FloatKind.decode .f64 z = _ from hz]
    rfl
  refine ⟨x, y, hx1, by rw [← hx1]; exact mul_comm_fl _ _ hbF h69F, fl_toInt hx2 (show fl69 b < _ by omega), ?_, hd69, nn hx2, hy1, fl_toInt hy2 (show flN b n < _ by omega), ?_, hdN, nn hy2⟩
  · have := fl_toInt (fl_down hx2 (show fl69 b < _ by omega)) (by rw [div_scale]; show fl69 b < _; omega)
    rw [div_scale] at this
    exact this
  · have := fl_toInt (fl_down hy2 (show flN b n < _ by omega)) (by rw [div_scale]; show flN b n < _; omega)
    rw [div_scale] at this
    exact this
theorem flN_mono (b : Nat) {n n' : Nat} (h : n ≤ n') : flN b n ≤ flN b n' := Nat.div_le_div_right (RV_mono (Nat.mul_le_mul_left _ h))
theorem szN_mono (b : Nat) {n n' : Nat} (h : n ≤ n') : szN b n ≤ szN b n' := by
  have := flN_mono b h
  unfold szN
  omega
theorem ok10 : okB 4621819117588971520 = true ∧ okB 0 = false ∧ prN 4621819117588971520 = 6 ∧ szN 4621819117588971520 0 = 8 := by decide +kernel
end Go.Proofs.YtgegjcnjlibfdaaGreat
/- The contracts of bloom's probesFor and sizeFor. -/
namespace Go.Proofs.YtgegjcnjlibfdaaGreat
open Go.RowKit
theorem floor_match {u : Type} (x : Nat) (h1 : Nat → u) (h2 : Array Value → u) : Extern.MathFloor.toIntegral.match_2 (fun _ => u) #[Value.float .f64 x] h1 h2 = h1 x := rfl
theorem arch_floor (x : Nat) (hx : (FloatKind.f64.decode x).isNaN = false) (W : World) : (callFunc 118 #[.float .f64 x]).run Tryz.prog W = .ok (.value (.float .f64 (flDown x))) W := by
  rw [run_callFunc_extern Tryz.func118 (by kernel_rfl) (by kernel_rfl) (by kernel_rfl) (e := Extern.MathFloor.toIntegral "math.archFloor" .down) (by kernel_rfl)]
  delta Extern.MathFloor.toIntegral flDown
  rw [floor_match]
  cases hd : FloatKind.f64.decode x with
  | nan s t => rw [hd] at hx; cases hx
  | infinity s => rfl
  | number s m i => rfl
set_option maxRecDepth 100000 in
set_option maxHeartbeats 400000 in
theorem floor_any (x : Nat) (hx : (FloatKind.f64.decode x).isNaN = false) (w : World) :
    Calls Tryz.prog 92 #[.float .f64 x] w fun e w' => e = .returned (.float .f64 (flDown x)) ∧ w' = w := by
  have h := arch_floor x hx
  generalize flDown x = y at *
  clear hx
  go_enter Tryz.func92, Tryz.ntmps92
  go_wp2
  go_ret
  exact ⟨rfl, rfl⟩
theorem max_nat (a b : Nat) : max (a : Int) (b : Int) = ((max a b : Nat) : Int) := by omega
set_option maxRecDepth 100000 in
set_option maxHeartbeats 400000 in
theorem probes_any {b : Nat} (h : okB b = true) (w : World) :
    Calls Tryz.prog 54 #[.float .f64 b] w fun e w' => e = .returned (.int .i64 (prN b : Nat)) ∧ w' = w := by
  obtain ⟨x, _, h1, _, _, h4, h5, h6, _⟩ := ok_facts h 0 (by omega)
  have hm := fun W => run_float_arith (P := Tryz.prog) W .mul 24 .f64 4604390187031047700 b x h1
  have hf := floor_any x h6
  have hc := fun W => run_convert_float_int (P := Tryz.prog) W 24 3 .f64 .i64 (flDown x) _ (by rw [Tryz.underlying24]; rfl) Tryz.underlying3 h4
  have HP : Hid (prN b = max 1 (fl69 b)) := rfl
  generalize fl69 b = n at *
  generalize flDown x = y at *
  clear h h1 h4 h6
  go_enter Tryz.func54, Tryz.ntmps54
  go_wp2_with (go_at_call 92; refine (hf _).mono ?_; rintro e w' ⟨rfl, rfl⟩)
  all_goals
    go_ret
    exact ⟨ret1 (congrArg (Value.int .i64) (by rw [HP.out]; omega)), rfl⟩
set_option maxRecDepth 100000 in
set_option maxHeartbeats 400000 in
theorem size_any {b : Nat} (h : okB b = true) (k : Nat) (hk : k ≤ 17592186044416) (w : World) :
    Calls Tryz.prog 55 #[.float .f64 b, .int .i64 (k : Int)] w fun e w' => e = .returned (.int .i64 (szN b k : Nat)) ∧ w' = w := by
  obtain ⟨_, x, _, _, _, _, _, _, h1, _, h4, h5, h6⟩ := ok_facts h k (by omega)
  have hm := fun W => run_float_arith (P := Tryz.prog) W .mul 24 .f64 b (floatOfInt .f64 (k : Int)) x h1
  have hf := floor_any x h6
  have hc := fun W => run_convert_float_int (P := Tryz.prog) W 24 3 .f64 .i64 (flDown x) _ (by rw [Tryz.underlying24]; rfl) Tryz.underlying3 h4
  have HP : Hid (szN b k = (max 64 (flN b k) + 7) / 8) := rfl
  generalize flN b k = n at *
  generalize flDown x = y at *
  clear h h1 h4 h6
  have hn : n ≤ 1759218604441600 := by omega
  clear h5
  go_enter Tryz.func55, Tryz.ntmps55
  go_wp2_with (go_at_call 92; refine (hf _).mono ?_; rintro e w' ⟨rfl, rfl⟩)
  all_goals
    go_ret
    exact ⟨ret1 (congrArg (Value.int .i64) (by rw [HP.out]; omega)), rfl⟩
end Go.Proofs.YtgegjcnjlibfdaaGreat
