/- Keys stand in one line: what holds of the plain function that compares them. -/
import Derived.Test.YtleojljcidocjabKcmp
import Derived.Test.YtleojljcidocjabShortFacts
namespace Go.Proofs.Ytleojljcidocjab

theorem less_trans : ∀ (x y z : List UInt8), Op.bytesLess x y = true → Op.bytesLess y z = true → Op.bytesLess x z = true
  | _, [], _, h, _ => by simp [Op.bytesLess] at h
  | _, _ :: _, [], _, h => by simp [Op.bytesLess] at h
  | [], _ :: _, _ :: _, _, _ => by simp [Op.bytesLess]
  | a :: x, b :: y, c :: z, h1, h2 => by
    simp only [Op.bytesLess, Bool.or_eq_true, Bool.and_eq_true, decide_eq_true_eq, beq_iff_eq, UInt8.lt_iff_toNat_lt] at h1 h2 ⊢
    rcases h1 with h1 | ⟨rfl, h1⟩
    · rcases h2 with h2 | ⟨rfl, h2⟩
      · exact .inl (by omega)
      · exact .inl h1
    · rcases h2 with h2 | ⟨rfl, h2⟩
      · exact .inl h2
      · exact .inr ⟨rfl, less_trans x y z h1 h2⟩
theorem less_tri : ∀ (x y : List UInt8), Op.bytesLess x y = false → x = y ∨ Op.bytesLess y x = true
  | [], [], _ => .inl rfl
  | [], _ :: _, h => by simp [Op.bytesLess] at h
  | _ :: _, [], _ => .inr (by simp [Op.bytesLess])
  | a :: x, b :: y, h => by
    simp only [Op.bytesLess, Bool.or_eq_false_iff, Bool.and_eq_false_iff, decide_eq_false_iff_not, beq_eq_false_iff_ne, UInt8.lt_iff_toNat_lt] at h
    obtain ⟨h1, h2⟩ := h
    by_cases hab : a = b
    · subst hab
      rcases less_tri x y (by simpa using h2) with rfl | h3
      · exact .inl rfl
      · exact .inr (by simp [Op.bytesLess, h3])
    · refine .inr ?_
      have : a.toNat ≠ b.toNat := fun e => hab (UInt8.toNat_inj.1 e)
      simp only [Op.bytesLess, Bool.or_eq_true, decide_eq_true_eq, UInt8.lt_iff_toNat_lt]
      exact .inl (by omega)
theorem less_asymm (x y : List UInt8) (h : Op.bytesLess x y = true) : Op.bytesLess y x = false := by
  by_cases h2 : Op.bytesLess y x = true
  · have := less_trans x y x h h2
    rw [less_self] at this
    cases this
  · simpa using h2
theorem scmp_spec (x y : List UInt8) : (scmp x y = -1 ∧ Op.bytesLess x y = true) ∨ (scmp x y = 0 ∧ x = y) ∨ (scmp x y = 1 ∧ Op.bytesLess y x = true) := by
  unfold scmp
  by_cases h : Op.bytesLess x y = true
  · rw [if_pos h]
    exact .inl ⟨rfl, h⟩
  · rw [if_neg h]
    by_cases h2 : x = y
    · rw [if_pos (by simpa using h2)]
      exact .inr (.inl ⟨rfl, h2⟩)
    · rw [if_neg (by simpa using h2)]
      exact .inr (.inr ⟨rfl, (less_tri x y (by simpa using h)).resolve_left h2⟩)
theorem scmp_of_less {x y : List UInt8} (h : Op.bytesLess x y = true) : scmp x y = -1 := by unfold scmp; rw [if_pos h]
theorem scmp_of_more {x y : List UInt8} (h : Op.bytesLess y x = true) : scmp x y = 1 := by
  unfold scmp
  have h2 := less_asymm y x h
  rw [if_neg (by rw [h2]; decide), if_neg (by intro e; have hxy : x = y := (by simpa using e); subst hxy; rw [h2] at h; cases h)]
theorem scmp_self (x : List UInt8) : scmp x x = 0 := by
  unfold scmp
  rw [if_neg (by rw [less_self]; decide), if_pos (by simp)]
theorem scmp_turn (x y : List UInt8) : scmp y x = -scmp x y := by
  rcases scmp_spec x y with ⟨e, h⟩ | ⟨e, rfl⟩ | ⟨e, h⟩
  · rw [e, scmp_of_more h]; rfl
  · rw [e]; rfl
  · rw [e, scmp_of_less h]
theorem scmp_row (x y z : List UInt8) : (scmp x y = 0 → scmp x z = scmp y z) ∧ (scmp y z = 0 → scmp x z = scmp x y) ∧ (scmp x y = -1 → scmp y z = -1 → scmp x z = -1) ∧ (scmp x y = 1 → scmp y z = 1 → scmp x z = 1) := by
  refine ⟨?_, ?_, ?_, ?_⟩
  · intro h
    rcases scmp_spec x y with ⟨e, _⟩ | ⟨_, rfl⟩ | ⟨e, _⟩
    · omega
    · rfl
    · omega
  · intro h
    rcases scmp_spec y z with ⟨e, _⟩ | ⟨_, rfl⟩ | ⟨e, _⟩
    · omega
    · rfl
    · omega
  · intro h1 h2
    rcases scmp_spec x y with ⟨_, l1⟩ | ⟨e, _⟩ | ⟨e, _⟩
    · rcases scmp_spec y z with ⟨_, l2⟩ | ⟨e, _⟩ | ⟨e, _⟩
      · exact scmp_of_less (less_trans x y z l1 l2)
      · omega
      · omega
    · omega
    · omega
  · intro h1 h2
    rcases scmp_spec x y with ⟨e, _⟩ | ⟨e, _⟩ | ⟨_, l1⟩
    · omega
    · omega
    · rcases scmp_spec y z with ⟨e, _⟩ | ⟨e, _⟩ | ⟨_, l2⟩
      · omega
      · omega
      · exact scmp_of_more (less_trans z y x l2 l1)
theorem icmp_spec (x y : Int) : (icmp x y = -1 ∧ x < y) ∨ (icmp x y = 0 ∧ x = y) ∨ (icmp x y = 1 ∧ y < x) := by
  unfold icmp
  split
  · exact .inl ⟨rfl, by assumption⟩
  · split
    · exact .inr (.inr ⟨rfl, by assumption⟩)
    · exact .inr (.inl ⟨rfl, by omega⟩)
theorem kcmp_spec (s t : List UInt8) (q r k l : Int) : (scmp s t ≠ 0 ∧ kcmp s t q r k l = scmp s t) ∨ (scmp s t = 0 ∧ r ≠ q ∧ kcmp s t q r k l = icmp r q) ∨ (scmp s t = 0 ∧ r = q ∧ kcmp s t q r k l = icmp l k) := by
  unfold kcmp
  by_cases h : scmp s t = 0
  · rw [if_neg (by simp [h])]
    by_cases h2 : icmp r q = 0
    · rw [if_neg (by simp [h2])]
      have := icmp_spec r q
      exact .inr (.inr ⟨h, by omega, rfl⟩)
    · rw [if_pos (by simp [h2])]
      have := icmp_spec r q
      exact .inr (.inl ⟨h, by omega, rfl⟩)
  · rw [if_pos (by simpa using h)]
    exact .inl ⟨h, rfl⟩
theorem kcmp_self (s : List UInt8) (q k : Int) : kcmp s s q q k k = 0 := by
  have := icmp_spec k k
  have e := scmp_self s
  rcases kcmp_spec s s q q k k with ⟨h, _⟩ | ⟨_, h, _⟩ | ⟨_, _, h⟩
  · omega
  · omega
  · omega
theorem kcmp_turn (s t : List UInt8) (q r k l : Int) : kcmp t s r q l k = -kcmp s t q r k l := by
  have e := scmp_turn s t
  have i1 := icmp_spec r q
  have i2 := icmp_spec q r
  have i3 := icmp_spec l k
  have i4 := icmp_spec k l
  rcases kcmp_spec s t q r k l with ⟨h1, h2⟩ | ⟨h1, h2, h3⟩ | ⟨h1, h2, h3⟩ <;> rcases kcmp_spec t s r q l k with ⟨g1, g2⟩ | ⟨g1, g2, g3⟩ | ⟨g1, g2, g3⟩ <;> omega
theorem kcmp_bound (s t : List UInt8) (q r k l : Int) : kcmp s t q r k l = -1 ∨ kcmp s t q r k l = 0 ∨ kcmp s t q r k l = 1 := by
  have e := scmp_spec s t
  have i1 := icmp_spec r q
  have i3 := icmp_spec l k
  rcases kcmp_spec s t q r k l with ⟨h1, h2⟩ | ⟨h1, h2, h3⟩ | ⟨h1, h2, h3⟩ <;> omega
theorem kcmp_zero (s t : List UInt8) (q r k l : Int) : kcmp s t q r k l = 0 ↔ s = t ∧ q = r ∧ k = l := by
  constructor
  · intro h
    have i1 := icmp_spec r q
    have i3 := icmp_spec l k
    rcases kcmp_spec s t q r k l with ⟨h1, h2⟩ | ⟨h1, h2, h3⟩ | ⟨h1, h2, h3⟩
    · omega
    · omega
    · rcases scmp_spec s t with ⟨e, _⟩ | ⟨_, e⟩ | ⟨e, _⟩
      · omega
      · exact ⟨e, by omega, by omega⟩
      · omega
  · rintro ⟨rfl, rfl, rfl⟩
    exact kcmp_self _ _ _
theorem kcmp_num (s t : List UInt8) (q r k l : Int) (h : scmp s t = 0) : (kcmp s t q r k l ≤ 0 ↔ r < q ∨ (r = q ∧ l ≤ k)) ∧ (kcmp s t q r k l < 0 ↔ r < q ∨ (r = q ∧ l < k)) := by
  have i1 := icmp_spec r q
  have i3 := icmp_spec l k
  rcases kcmp_spec s t q r k l with ⟨h1, h2⟩ | ⟨h1, h2, h3⟩ | ⟨h1, h2, h3⟩ <;> omega
theorem kcmp_text (s t : List UInt8) (q r k l : Int) (h : scmp s t ≠ 0) : kcmp s t q r k l = scmp s t := by
  rcases kcmp_spec s t q r k l with ⟨h1, h2⟩ | ⟨h1, h2, h3⟩ | ⟨h1, h2, h3⟩ <;> omega
theorem kcmp_row (s t u : List UInt8) (q r p k l m : Int) : (kcmp s t q r k l ≤ 0 → kcmp t u r p l m ≤ 0 → kcmp s u q p k m ≤ 0) ∧ (kcmp s t q r k l ≤ 0 → kcmp t u r p l m < 0 → kcmp s u q p k m < 0) := by
  obtain ⟨e1, e2, e3, e4⟩ := scmp_row s t u
  have b1 : scmp s t = -1 ∨ scmp s t = 0 ∨ scmp s t = 1 := by rcases scmp_spec s t with ⟨e, _⟩ | ⟨e, _⟩ | ⟨e, _⟩ <;> omega
  have b2 : scmp t u = -1 ∨ scmp t u = 0 ∨ scmp t u = 1 := by rcases scmp_spec t u with ⟨e, _⟩ | ⟨e, _⟩ | ⟨e, _⟩ <;> omega
  rcases b1 with b1 | b1 | b1
  · have k1 := kcmp_text s t q r k l (by omega)
    rcases b2 with b2 | b2 | b2
    · have k3 := kcmp_text s u q p k m (by omega)
      omega
    · have k3 := kcmp_text s u q p k m (by omega)
      omega
    · have k2 := kcmp_text t u r p l m (by omega)
      omega
  · rcases b2 with b2 | b2 | b2
    · have k3 := kcmp_text s u q p k m (by omega)
      omega
    · have n1 := kcmp_num s t q r k l b1
      have n2 := kcmp_num t u r p l m b2
      have n3 := kcmp_num s u q p k m (by omega)
      omega
    · have k2 := kcmp_text t u r p l m (by omega)
      omega
  · have k1 := kcmp_text s t q r k l (by omega)
    omega
end Go.Proofs.Ytleojljcidocjab
