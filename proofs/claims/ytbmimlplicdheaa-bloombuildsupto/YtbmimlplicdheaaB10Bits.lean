/- How many bits a key is given: what may be, and what is reckoned with it. -/
import Derived.Test.YtbmimlplicdheaaB10Fl
namespace Go.Proofs.Ytbmimlplicdheaa
open Ieee

theorem read_num {b : Nat} {s : Bool} {m : Nat} {i : Int} (h : double.read b = .number s m i) : m < 2 ^ 53 ∧ -1074 ≤ i := by
  unfold Format.read at h
  simp only [dbl_binade, dbl_least] at h
  split at h
  · cases h; omega
  · split at h
    · cases h; omega
    · split at h <;> cases h
theorem read0 : double.read 0 = .number false 0 (-1074) := by decide
theorem read50 : double.read 4632233691727265792 = .number false (50 * 2 ^ 47) (-47) := by decide
theorem read69 : double.read 4604390187031047700 = .number false 6214967485771284 (-53) := by decide
/-- The bits' worth, by the scale. -/
def bitsV (b : Nat) : Nat := match double.read b with | .number _ m i => sv m i | _ => 0
def bitsV69 (b : Nat) : Nat := match double.read b with | .number _ m i => sv (m * 6214967485771284) (i - 53) | _ => 0
/-- 0.69 times bits, and bits times so many, rounded down. -/
def fl69 (b : Nat) : Nat := RV (bitsV69 b) / 2 ^ KK
def flN (b n : Nat) : Nat := RV (bitsV b * n) / 2 ^ KK
def prN (b : Nat) : Nat := max 1 (fl69 b)
def szN (b n : Nat) : Nat := (max 64 (flN b n) + 7) / 8
/-- Bits that may be. -/
def okB (b : Nat) : Bool := (FloatKind.f64.format.order b 0 == some .gt) && (FloatKind.f64.format.order b 4632233691727265792 == some .lt || FloatKind.f64.format.order b 4632233691727265792 == some .eq)

theorem sv_scale (m : Nat) (i base : Int) (hb : -(KK : Int) ≤ base) (hi : base ≤ i) : sv m i = m <<< (i - base).toNat * 2 ^ (base + KK).toNat := by
  unfold sv
  rw [Nat.shiftLeft_eq, Nat.mul_assoc, ← Nat.pow_add]
  congr 2
  omega
theorem ok_read {b : Nat} (h : okB b = true) : ∃ m i, double.read b = .number false m i ∧ -1074 ≤ i ∧ m < 2 ^ 53 ∧ sv m i ≤ 50 * 2 ^ KK := by
  have hKK := KK_eq
  unfold okB at h
  rw [show FloatKind.f64.format = double from rfl] at h
  simp only [Bool.and_eq_true, Bool.or_eq_true, beq_iff_eq] at h
  obtain ⟨h1, h2⟩ := h
  unfold Format.order at h1 h2
  rw [read0] at h1
  rw [read50] at h2
  cases hr : double.read b with
  | nan s f => rw [hr] at h1; simp [Datum.order] at h1
  | infinity s => rw [hr] at h1 h2; cases s <;> simp [Datum.order] at h1 h2
  | number s m i =>
    obtain ⟨hm, hi⟩ := read_num hr
    rw [hr] at h1 h2
    simp only [Datum.order] at h1 h2
    have hs : s = false := by
      cases s with
      | false => rfl
      | true =>
        exfalso
        have h1' := Option.some.inj h1
        rw [Int.compare_eq_gt] at h1'
        have a1 : signed true m (i - min i (-1074)).toNat ≤ 0 := by
          unfold signed
          rw [if_pos rfl]
          generalize m <<< (i - min i (-1074)).toNat = q
          omega
        have a2 : signed false 0 (-1074 - min i (-1074)).toNat = 0 := by
          unfold signed
          rw [Nat.zero_shiftLeft]
          rfl
        omega
    subst hs
    refine ⟨m, i, rfl, hi, hm, ?_⟩
    have h2' : signed false m (i - min i (-47)).toNat ≤ signed false (50 * 2 ^ 47) (-47 - min i (-47)).toNat := by
      rcases h2 with h2 | h2
      · have := Option.some.inj h2
        rw [Int.compare_eq_lt] at this
        omega
      · have := Option.some.inj h2
        rw [Int.compare_eq_eq] at this
        omega
    simp only [signed, Bool.false_eq_true, if_false] at h2'
    have h3 := Int.ofNat_le.1 h2'
    have h4 := Nat.mul_le_mul_right (2 ^ (min i (-47) + (KK : Int)).toNat) h3
    rw [← sv_scale m i _ (by omega) (by omega), ← sv_scale (50 * 2 ^ 47) (-47) _ (by omega) (by omega)] at h4
    refine Nat.le_trans h4 ?_
    unfold sv
    rw [Nat.mul_assoc, ← Nat.pow_add, show 47 + ((-47 : Int) + (KK : Int)).toNat = KK by omega]
    exact Nat.le_refl _
theorem pow_le_3000 (c : Nat) (hc : c < 2 ^ 200) : c * 2 ^ KK < 2 ^ 3000 := by
  have hKK := KK_eq
  have h1 : c * 2 ^ KK < 2 ^ 200 * 2 ^ KK := Nat.mul_lt_mul_of_pos_right hc (Nat.two_pow_pos _)
  rw [← Nat.pow_add] at h1
  have h2 : 200 + KK ≤ 3000 := by omega
  have h3 := Nat.pow_le_pow_right (n := 2) Nat.zero_lt_two h2
  exact Nat.lt_of_lt_of_le h1 h3
/-- What is read of a word: a number that is not below nought. -/
def Fl (x V : Nat) : Prop := ∃ m i, double.read x = .number false m i ∧ -1074 ≤ i ∧ sv m i = V
theorem fl_near (m : Nat) (i : Int) (hi : -(KK : Int) ≤ i) (hb : sv m i < 2 ^ 3000) : Fl (double.nearest false m i) (RV (sv m i)) := by
  obtain ⟨m', i', h1, h2, _, h4⟩ := nearest_read m i hi hb
  exact ⟨m', i', h1, h2, h4⟩
theorem fl_mul {x y X Y Z : Nat} (hx : Fl x X) (hy : Fl y Y) (hZ : Z * 2 ^ KK = X * Y) (hb : Z < 2 ^ 3000) : ∃ r, floatBits .mul .f64 x y = some r ∧ Fl r (RV Z) := by
  have hKK := KK_eq
  obtain ⟨m, i, h1, h2, rfl⟩ := hx
  obtain ⟨n, j, h3, h4, rfl⟩ := hy
  have e : sv (m * n) (i + j) = Z := by
    refine Nat.eq_of_mul_eq_mul_right (Nat.two_pow_pos KK) ?_
    rw [hZ]
    unfold sv
    have e1 : (i + j + (KK : Int)).toNat + KK = (i + (KK : Int)).toNat + (j + (KK : Int)).toNat := by omega
    rw [Nat.mul_assoc, ← Nat.pow_add, e1, Nat.mul_mul_mul_comm, ← Nat.pow_add]
  refine ⟨double.nearest false (m * n) (i + j), ?_, ?_⟩
  · show double.mul x y = _
    unfold Format.mul
    rw [h1, h3]
    rfl
  · rw [← e]
    exact fl_near _ _ (by omega) (by rw [e]; exact hb)
theorem mul_comm_fl (x y : Nat) {X Y : Nat} (hx : Fl x X) (hy : Fl y Y) : floatBits .mul .f64 x y = floatBits .mul .f64 y x := by
  obtain ⟨m, i, h1, h2, rfl⟩ := hx
  obtain ⟨n, j, h3, h4, rfl⟩ := hy
  show double.mul x y = double.mul y x
  unfold Format.mul
  rw [h1, h3]
  show some (double.nearest false (m * n) (i + j)) = some (double.nearest false (n * m) (j + i))
  rw [Nat.mul_comm, Int.add_comm]
theorem fl_int {n : Nat} (h : n < 2 ^ 53) : Fl (floatOfInt .f64 (n : Int)) (n * 2 ^ KK) := by
  have hKK := KK_eq
  have e : sv n 0 = n * 2 ^ KK := by
    unfold sv
    rw [show ((0 : Int) + (KK : Int)).toNat = KK by omega]
  have hlt : sv n 0 < 2 ^ 3000 := by rw [e]; exact pow_le_3000 n (Nat.lt_of_lt_of_le h (Nat.pow_le_pow_right (by omega) (by omega)))
  have := fl_near n 0 (by omega) hlt
  rw [e, RV_whole n h] at this
  have e2 : floatOfInt .f64 (n : Int) = double.nearest false n 0 := by
    show double.nearest (decide ((n : Int) < 0)) (n : Int).natAbs 0 = _
    rw [decide_eq_false (by omega), Int.natAbs_natCast]
  rw [e2]
  exact this
/-- Cut to an int. -/
theorem fl_toInt {x V : Nat} (h : Fl x V) (hb : V / 2 ^ KK < 2 ^ 63) : floatToIntVal .f64 x .i64 = some ((V / 2 ^ KK : Nat) : Int) := by
  have hKK := KK_eq
  obtain ⟨m, i, h1, h2, rfl⟩ := h
  unfold floatToIntVal
  rw [show FloatKind.decode .f64 x = _ from h1, toInt_num m i (by omega)]
  generalize sv m i / 2 ^ KK = q at hb ⊢
  simp only
  rw [if_pos ⟨by simp [IntKind.min, IntKind.signed, IntKind.bits], by simp [IntKind.max, IntKind.signed, IntKind.bits]; omega⟩]
/-- Rounded down. -/
def flDown (x : Nat) : Nat := FloatKind.f64.encode ((FloatKind.f64.decode x).integral .down)
theorem fl_down {x V : Nat} (h : Fl x V) (hb : V / 2 ^ KK < 2 ^ 53) : Fl (flDown x) (V / 2 ^ KK * 2 ^ KK) := by
  have hKK := KK_eq
  obtain ⟨m, i, h1, h2, rfl⟩ := h
  have e : flDown x = floatOfInt .f64 ((sv m i / 2 ^ KK : Nat) : Int) := by
    unfold flDown
    rw [show FloatKind.decode .f64 x = _ from h1, integral_num m i (by omega)]
    generalize sv m i / 2 ^ KK = q
    show double.nearest false _ 0 = double.nearest (decide ((q : Int) < 0)) (q : Int).natAbs 0
    rw [decide_eq_false (by omega), Int.natAbs_natCast]
  rw [e]
  exact fl_int hb
theorem div_scale (n : Nat) : n * 2 ^ KK / 2 ^ KK = n := Nat.mul_div_cancel _ (Nat.two_pow_pos _)

/-- All that is reckoned with bits that may be, and so many keys. -/
theorem ok_facts {b : Nat} (h : okB b = true) (n : Nat) (hn : n ≤ 2 ^ 44) : ∃ x y : Nat,
    floatBits .mul .f64 4604390187031047700 b = some x ∧ floatBits .mul .f64 b 4604390187031047700 = some x ∧ floatToIntVal .f64 x .i64 = some (fl69 b : Int) ∧ floatToIntVal .f64 (flDown x) .i64 = some (fl69 b : Int) ∧ fl69 b ≤ 100 ∧ (FloatKind.f64.decode x).isNaN = false ∧
    floatBits .mul .f64 b (floatOfInt .f64 (n : Int)) = some y ∧ floatToIntVal .f64 y .i64 = some (flN b n : Int) ∧ floatToIntVal .f64 (flDown y) .i64 = some (flN b n : Int) ∧ flN b n ≤ 100 * n ∧ (FloatKind.f64.decode y).isNaN = false := by
  have hKK := KK_eq
  obtain ⟨m, i, h1, h2, h3, h4⟩ := ok_read h
  have hv : bitsV b = sv m i := by unfold bitsV; rw [h1]
  have hv69 : bitsV69 b = sv (m * 6214967485771284) (i - 53) := by unfold bitsV69; rw [h1]
  have hbF : Fl b (sv m i) := ⟨m, i, h1, h2, rfl⟩
  have h69F : Fl 4604390187031047700 (sv 6214967485771284 (-53)) := ⟨_, _, read69, by omega, rfl⟩
  have e69 : bitsV69 b * 2 ^ KK = sv 6214967485771284 (-53) * sv m i := by
    rw [hv69]
    unfold sv
    have e1 : (i - 53 + (KK : Int)).toNat + KK = ((-53 : Int) + (KK : Int)).toNat + (i + (KK : Int)).toNat := by omega
    rw [Nat.mul_comm m, Nat.mul_assoc, ← Nat.pow_add, e1, Nat.mul_mul_mul_comm, ← Nat.pow_add]
  have hle69 : bitsV69 b ≤ 50 * 2 ^ KK := by
    refine Nat.le_trans ?_ h4
    rw [hv69]
    unfold sv
    rw [Nat.mul_assoc]
    refine Nat.mul_le_mul_left _ ?_
    have : 6214967485771284 ≤ 2 ^ 53 := by omega
    refine Nat.le_trans (Nat.mul_le_mul_right _ this) ?_
    rw [← Nat.pow_add]
    exact Nat.pow_le_pow_right (by omega) (by omega)
  have hP := Nat.two_pow_pos KK
  have hd69 : fl69 b ≤ 100 := by
    unfold fl69
    rw [Nat.div_le_iff_le_mul_add_pred hP]
    have := RV_twice (bitsV69 b)
    omega
  have hleN : bitsV b * n ≤ 50 * n * 2 ^ KK := by
    rw [hv, Nat.mul_right_comm 50]
    exact Nat.mul_le_mul_right _ h4
  have hdN : flN b n ≤ 100 * n := by
    unfold flN
    rw [Nat.div_le_iff_le_mul_add_pred hP]
    have := RV_twice (bitsV b * n)
    have e : 2 * (50 * n * 2 ^ KK) = 2 ^ KK * (100 * n) := by rw [← Nat.mul_assoc, ← Nat.mul_assoc, Nat.mul_comm]
    omega
  obtain ⟨x, hx1, hx2⟩ := fl_mul h69F hbF e69 (Nat.lt_of_le_of_lt hle69 (pow_le_3000 50 (by omega)))
  have eN : (bitsV b * n) * 2 ^ KK = sv m i * (n * 2 ^ KK) := by rw [hv, Nat.mul_assoc]
  have hc8 : 50 * n < 2 ^ 200 := Nat.lt_of_lt_of_le (show 50 * n < 2 ^ 50 by omega) (Nat.pow_le_pow_right (by omega) (by omega))
  obtain ⟨y, hy1, hy2⟩ := fl_mul hbF (fl_int (n := n) (by omega)) eN (Nat.lt_of_le_of_lt hleN (pow_le_3000 _ hc8))
  have nn : ∀ {z V : Nat}, Fl z V → (FloatKind.f64.decode z).isNaN = false := by
    rintro z V ⟨m', i', hz, _, _⟩
    rw [show FloatKind.decode .f64 z = _ from hz]
    rfl
  refine ⟨x, y, hx1, by rw [← hx1]; exact mul_comm_fl _ _ hbF h69F, fl_toInt hx2 (show fl69 b < _ by omega), ?_, hd69, nn hx2, hy1, fl_toInt hy2 (show flN b n < _ by omega), ?_, hdN, nn hy2⟩
  · have := fl_toInt (fl_down hx2 (show fl69 b < _ by omega)) (by rw [div_scale]; show fl69 b < _; omega)
    rw [div_scale] at this
    exact this
  · have := fl_toInt (fl_down hy2 (show flN b n < _ by omega)) (by rw [div_scale]; show flN b n < _; omega)
    rw [div_scale] at this
    exact this
theorem flN_mono (b : Nat) {n n' : Nat} (h : n ≤ n') : flN b n ≤ flN b n' := Nat.div_le_div_right (RV_mono (Nat.mul_le_mul_left _ h))
theorem szN_mono (b : Nat) {n n' : Nat} (h : n ≤ n') : szN b n ≤ szN b n' := by
  have := flN_mono b h
  unfold szN
  omega
theorem ok10 : okB 4621819117588971520 = true ∧ okB 0 = false ∧ prN 4621819117588971520 = 6 ∧ szN 4621819117588971520 0 = 8 := by decide +kernel
end Go.Proofs.Ytbmimlplicdheaa
