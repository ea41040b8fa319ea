/- The plain mathematics of filters: a key's number, the places of its bits, and what is set; no program is spoken of here. -/
import Derived.Test.YtbmimlplicdheaaPlain
import Derived.Test.YtbmimlplicdheaaBits
namespace Go.Proofs.Ytbmimlplicdheaa

/-- A part of a key is mixed in. -/
def mixN (h n s : Nat) : Nat := ((h + n) % 4294967296 * 3332679571 % 4294967296) ^^^ ((h + n) % 4294967296 * 3332679571 % 4294967296 / 2 ^ s)
def hashGo : Nat → List UInt8 → Nat
  | h, a :: b :: c :: d :: r => hashGo (mixN h (leNat [a, b, c, d]) 16) r
  | h, [] => h
  | h, l => mixN h (leNat l) 24
/-- A key's number. -/
def hashN (k : List UInt8) : Nat := hashGo (3164544308 ^^^ (k.length % 4294967296 * 3332679571 % 4294967296)) k
/-- The number, turned round to the right by 17. -/
def stepN (h : Nat) : Nat := h / 131072 + h % 131072 * 32768
/-- The number ahead of probe i; its place. -/
def atN (h i : Nat) : Nat := (h + i * stepN h) % 4294967296
/-- The places of a key's bits. -/
def plc (k : List UInt8) (count probes : Nat) : List Nat := (List.range probes).map fun i => atN (hashN k) i % count

theorem mixN_lt (h n s : Nat) : mixN h n s < 4294967296 :=
  Nat.xor_lt_two_pow (n := 32) (Nat.mod_lt _ (by omega)) (Nat.lt_of_le_of_lt (Nat.div_le_self _ _) (Nat.mod_lt _ (by omega)))
theorem hashGo_step (h : Nat) (l : List UInt8) (hl : 4 ≤ l.length) : hashGo h l = hashGo (mixN h (leNat (l.take 4)) 16) (l.drop 4) := by
  match l, hl with
  | a :: b :: c :: d :: r, _ => rw [hashGo]; rfl
  | [], h => simp at h
  | [_], h => simp at h
  | [_, _], h => simp at h
  | [_, _, _], h => simp at h
theorem hashGo_last (h : Nat) (l : List UInt8) (hl : l.length < 4) (h0 : 0 < l.length) : hashGo h l = mixN h (leNat l) 24 := by
  match l, hl, h0 with
  | [a], _, _ => rfl
  | [a, b], _, _ => rfl
  | [a, b, c], _, _ => rfl
  | [], _, h => simp at h
  | _ :: _ :: _ :: _ :: _, h, _ => simp at h; omega
theorem hashGo_nil (h : Nat) : hashGo h [] = h := rfl
theorem hash0_lt (n : Nat) : 3164544308 ^^^ (n % 4294967296 * 3332679571 % 4294967296) < 4294967296 := Nat.xor_lt_two_pow (n := 32) (by omega) (Nat.mod_lt _ (by omega))
theorem hashGo_lt (n : Nat) : ∀ (l : List UInt8), l.length ≤ n → ∀ h, h < 4294967296 → hashGo h l < 4294967296 := by
  induction n with
  | zero =>
    intro l hl h hh
    obtain rfl := List.eq_nil_of_length_eq_zero (Nat.le_zero.1 hl)
    exact hh
  | succ n ih =>
    intro l hl h hh
    by_cases h4 : 4 ≤ l.length
    · rw [hashGo_step h l h4]
      exact ih _ (by simp; omega) _ (mixN_lt _ _ _)
    · by_cases h0 : l.length = 0
      · obtain rfl := List.eq_nil_of_length_eq_zero h0
        exact hh
      · rw [hashGo_last h l (by omega) (by omega)]
        exact mixN_lt _ _ _
theorem hashN_lt (k : List UInt8) : hashN k < 4294967296 := hashGo_lt _ k (Nat.le_refl _) _ (hash0_lt _)
theorem stepN_lt {h : Nat} (hh : h < 4294967296) : stepN h < 4294967296 := by unfold stepN; omega
theorem atN_zero {h : Nat} (hh : h < 4294967296) : atN h 0 = h := by unfold atN; omega
theorem atN_next (h i : Nat) : atN h (i + 1) = (atN h i + stepN h) % 4294967296 := by
  unfold atN
  rw [Nat.add_mul, Nat.one_mul, ← Nat.add_assoc, Nat.mod_add_mod]
theorem atN_lt (h i : Nat) : atN h i < 4294967296 := Nat.mod_lt _ (by omega)
/-- Turned round, as the program reckons it. -/
theorem turn_or (h : Nat) (hh : h < 4294967296) : (h * 32768 % 4294967296) ||| (h / 131072) = stepN h := by
  unfold stepN
  have h1 : h / 131072 < 2 ^ 15 := by omega
  have h2 : h * 32768 % 4294967296 = 2 ^ 15 * (h % 131072) := by omega
  rw [h2, ← Nat.two_pow_add_eq_or_of_lt h1]
  omega

/-- A bit of bytes. -/
def bitAt (l : List UInt8) (p : Nat) : Bool := (l.getD (p / 8) 0).toNat.testBit (p % 8)
/-- A byte with a bit set. -/
def orBit (c : UInt8) (k : Nat) : UInt8 := UInt8.ofNat (c.toNat ||| 2 ^ k)
def setBit (l : List UInt8) (p : Nat) : List UInt8 := l.set (p / 8) (orBit (l.getD (p / 8) 0) (p % 8))
def fill (l : List UInt8) (ps : List Nat) : List UInt8 := ps.foldl setBit l
def fillAll (keys : List (List UInt8)) (count probes : Nat) (l : List UInt8) : List UInt8 := keys.foldl (fun l k => fill l (plc k count probes)) l
/-- The filter of keys. -/
def buildN (keys : List (List UInt8)) (probes size : Nat) : List UInt8 := fillAll keys (8 * size) probes (List.replicate size 0 ++ [UInt8.ofNat probes])
/-- Whether a key may be there. -/
def mayN (f : List UInt8) (k : List UInt8) : Bool :=
  decide (f.length < 2) || decide ((f.getD (f.length - 1) 0).toNat < 1) || decide (30 < (f.getD (f.length - 1) 0).toNat) ||
    (plc k (8 * (f.length - 1)) (f.getD (f.length - 1) 0).toNat).all fun p => bitAt f p

theorem pow8 {k : Nat} (hk : k < 8) : 2 ^ k < 256 := Nat.pow_lt_pow_right (a := 2) (by omega) hk
theorem orBit_toNat (c : UInt8) {k : Nat} (hk : k < 8) : (orBit c k).toNat = c.toNat ||| 2 ^ k := by
  have h : c.toNat ||| 2 ^ k < 2 ^ 8 := Nat.or_lt_two_pow (UInt8.toNat_lt c) (pow8 hk)
  simp only [orBit, UInt8.toNat_ofNat']
  exact Nat.mod_eq_of_lt h
theorem setBit_length (l : List UInt8) (p : Nat) : (setBit l p).length = l.length := by simp [setBit]
theorem fill_length (l : List UInt8) (ps : List Nat) : (fill l ps).length = l.length := by
  induction ps generalizing l with
  | nil => rfl
  | cons p ps ih => exact (ih _).trans (setBit_length _ _)
theorem fillAll_length (keys : List (List UInt8)) (count probes : Nat) (l : List UInt8) : (fillAll keys count probes l).length = l.length := by
  induction keys generalizing l with
  | nil => rfl
  | cons k ks ih => exact (ih _).trans (fill_length _ _)
theorem buildN_length (keys : List (List UInt8)) (probes size : Nat) : (buildN keys probes size).length = size + 1 := by
  rw [buildN, fillAll_length]; simp
theorem getD_set (l : List UInt8) (i j : Nat) (c : UInt8) (hi : i < l.length) : (l.set i c).getD j 0 = if i = j then c else l.getD j 0 := by
  simp only [List.getD, List.getElem?_set]
  by_cases h : i = j
  · subst h; simp [hi]
  · simp [h]
theorem bitAt_set (l : List UInt8) (p q : Nat) (hp : p / 8 < l.length) : bitAt (setBit l p) q = (decide (p = q) || bitAt l q) := by
  unfold bitAt setBit
  rw [getD_set _ _ _ _ hp]
  by_cases h : p / 8 = q / 8
  · rw [if_pos h, orBit_toNat _ (Nat.mod_lt _ (by omega)), Nat.testBit_or, h, Nat.testBit_two_pow, Bool.or_comm]
    congr 1
    by_cases h2 : p = q
    · subst h2; simp
    · rw [decide_eq_false h2, decide_eq_false (by omega)]
  · rw [if_neg h, decide_eq_false (by omega), Bool.false_or]
theorem bitAt_fill (l : List UInt8) (ps : List Nat) (h : ∀ p ∈ ps, p / 8 < l.length) (q : Nat) : bitAt (fill l ps) q = (decide (q ∈ ps) || bitAt l q) := by
  induction ps generalizing l with
  | nil => simp [fill]
  | cons p ps ih =>
    have := ih (setBit l p) (fun x hx => by rw [setBit_length]; exact h x (List.mem_cons_of_mem _ hx))
    show bitAt (fill (setBit l p) ps) q = _
    rw [this, bitAt_set _ _ _ (h p (List.mem_cons_self ..))]
    by_cases h1 : q ∈ ps
    · simp [h1]
    · by_cases h2 : p = q
      · subst h2; simp
      · have h3 : ¬ q = p := fun e => h2 e.symm
        simp [h1, h2, h3]
theorem plc_lt (k : List UInt8) {count probes : Nat} (hc : 0 < count) : ∀ p ∈ plc k count probes, p < count := by
  intro p hp
  obtain ⟨i, _, rfl⟩ := List.mem_map.1 hp
  exact Nat.mod_lt _ hc
theorem bitAt_fillAll (keys : List (List UInt8)) {count probes : Nat} (hc : 0 < count) (l : List UInt8) (h : count ≤ 8 * l.length) (q : Nat) :
    bitAt (fillAll keys count probes l) q = (keys.any (fun k => decide (q ∈ plc k count probes)) || bitAt l q) := by
  induction keys generalizing l with
  | nil => simp [fillAll]
  | cons k ks ih =>
    show bitAt (fillAll ks count probes (fill l (plc k count probes))) q = _
    rw [ih _ (by rw [fill_length]; exact h), bitAt_fill _ _ (fun p hp => by have := plc_lt k hc p hp; omega)]
    simp only [List.any_cons]
    rw [← Bool.or_assoc, Bool.or_comm (ks.any _)]
/-- Bytes that have the same bits are the same. -/
theorem bits_eq {l m : List UInt8} (hl : l.length = m.length) (h : ∀ q, bitAt l q = bitAt m q) : l = m := by
  refine List.ext_getElem hl fun i h1 h2 => ?_
  refine UInt8.toNat_inj.1 (Nat.eq_of_testBit_eq fun j => ?_)
  by_cases hj : j < 8
  · have := h (8 * i + j)
    unfold bitAt at this
    rw [show (8 * i + j) / 8 = i by omega, show (8 * i + j) % 8 = j by omega] at this
    simpa [List.getD, h1, h2] using this
  · rw [Nat.testBit_lt_two_pow, Nat.testBit_lt_two_pow]
    · exact Nat.lt_of_lt_of_le (UInt8.toNat_lt _) (Nat.pow_le_pow_right (n := 2) (by omega) (show 8 ≤ j by omega))
    · exact Nat.lt_of_lt_of_le (UInt8.toNat_lt _) (Nat.pow_le_pow_right (n := 2) (by omega) (show 8 ≤ j by omega))
/-- Bytes whose bits the other ones have. -/
theorem bits_and {l m : List UInt8} (h : ∀ q, bitAt l q = true → bitAt m q = true) (i : Nat) : (l.getD i 0).toNat &&& (m.getD i 0).toNat = (l.getD i 0).toNat := by
  refine Nat.eq_of_testBit_eq fun j => ?_
  rw [Nat.testBit_and]
  by_cases hj : j < 8
  · have := h (8 * i + j)
    unfold bitAt at this
    rw [show (8 * i + j) / 8 = i by omega, show (8 * i + j) % 8 = j by omega] at this
    cases hb : (l.getD i 0).toNat.testBit j with
    | false => rfl
    | true => rw [this hb]; rfl
  · rw [Nat.testBit_lt_two_pow, Bool.false_and]
    exact Nat.lt_of_lt_of_le (UInt8.toNat_lt _) (Nat.pow_le_pow_right (n := 2) (by omega) (show 8 ≤ j by omega))
/-- What stands behind the places that are set stays. -/
theorem setBit_app (l : List UInt8) (c : UInt8) {p : Nat} (hp : p < 8 * l.length) : setBit (l ++ [c]) p = setBit l p ++ [c] := by
  unfold setBit
  have h : p / 8 < l.length := by omega
  rw [List.set_append_left _ _ h]
  congr 2
  simp [List.getD, List.getElem?_append_left h]
theorem fill_app (l : List UInt8) (c : UInt8) (ps : List Nat) (h : ∀ p ∈ ps, p < 8 * l.length) : fill (l ++ [c]) ps = fill l ps ++ [c] := by
  induction ps generalizing l with
  | nil => rfl
  | cons p ps ih =>
    show fill (setBit (l ++ [c]) p) ps = fill (setBit l p) ps ++ [c]
    rw [setBit_app _ _ (h p (List.mem_cons_self ..))]
    exact ih _ (fun x hx => by rw [setBit_length]; exact h x (List.mem_cons_of_mem _ hx))
theorem fillAll_app (keys : List (List UInt8)) {probes : Nat} (l : List UInt8) (c : UInt8) (h0 : 0 < l.length) {count : Nat} (hc : count = 8 * l.length) : fillAll keys count probes (l ++ [c]) = fillAll keys count probes l ++ [c] := by
  induction keys generalizing l with
  | nil => rfl
  | cons k ks ih =>
    show fillAll ks count probes (fill (l ++ [c]) (plc k count probes)) = fillAll ks count probes (fill l (plc k count probes)) ++ [c]
    rw [fill_app _ _ _ (fun p hp => by have := plc_lt k (show 0 < count by omega) p hp; omega)]
    exact ih _ (by rw [fill_length]; exact h0) (by rw [fill_length]; exact hc)
theorem buildN_eq (keys : List (List UInt8)) (probes size : Nat) (h0 : 0 < size) : buildN keys probes size = fillAll keys (8 * size) probes (List.replicate size 0) ++ [UInt8.ofNat probes] := by
  unfold buildN
  exact fillAll_app keys _ _ (by simpa using h0) (by simp)
theorem bitAt_zero (n q : Nat) : bitAt (List.replicate n 0) q = false := by
  unfold bitAt
  have : (List.replicate n (0 : UInt8)).getD (q / 8) 0 = 0 := by
    simp only [List.getD, List.getElem?_replicate]
    split <;> rfl
  rw [this]
  exact Nat.zero_testBit _
theorem buildN_last (keys : List (List UInt8)) (probes size : Nat) (h0 : 0 < size) : (buildN keys probes size).getD size 0 = UInt8.ofNat probes := by
  rw [buildN_eq _ _ _ h0]
  have : (fillAll keys (8 * size) probes (List.replicate size 0)).length = size := by rw [fillAll_length]; simp
  rw [List.getD_eq_getElem?_getD, List.getElem?_append_right (by omega), this]
  simp
theorem bitAt_app (l : List UInt8) (c : UInt8) {q : Nat} (h : q < 8 * l.length) : bitAt (l ++ [c]) q = bitAt l q := by
  unfold bitAt
  simp [List.getD, List.getElem?_append_left (show q / 8 < l.length by omega)]
theorem bitAt_build (keys : List (List UInt8)) (probes size : Nat) (h0 : 0 < size) {q : Nat} (hq : q < 8 * size) : bitAt (buildN keys probes size) q = keys.any (fun k => decide (q ∈ plc k (8 * size) probes)) := by
  have hl : (fillAll keys (8 * size) probes (List.replicate size 0)).length = size := by rw [fillAll_length]; simp
  rw [buildN_eq _ _ _ h0, bitAt_app _ _ (by omega), bitAt_fillAll keys (by omega) _ (by simp), bitAt_zero, Bool.or_false]
/-- Each key of a filter may be there. -/
theorem may_build (keys : List (List UInt8)) (probes size : Nat) (h0 : 0 < size) (hp : probes < 256) {k : List UInt8} (hk : k ∈ keys) : mayN (buildN keys probes size) k = true := by
  unfold mayN
  rw [buildN_length, Nat.add_sub_cancel, buildN_last _ _ _ h0]
  have e : (UInt8.ofNat probes).toNat = probes := by
    simp only [UInt8.toNat_ofNat']
    exact Nat.mod_eq_of_lt hp
  rw [e]
  have : ((plc k (8 * size) probes).all fun p => bitAt (buildN keys probes size) p) = true := by
    rw [List.all_eq_true]
    intro p hpm
    rw [bitAt_build _ _ _ h0 (plc_lt k (by omega) p hpm), List.any_eq_true]
    exact ⟨k, hk, decide_eq_true hpm⟩
  rw [this, Bool.or_true]
theorem build_sub {keys keys' : List (List UInt8)} {probes size : Nat} (h0 : 0 < size) (h : ∀ k ∈ keys, k ∈ keys') (i : Nat) :
    ((buildN keys probes size).getD i 0).toNat &&& ((buildN keys' probes size).getD i 0).toNat = ((buildN keys probes size).getD i 0).toNat := by
  by_cases hi : i < size
  · have h1 : ∀ ks : List (List UInt8), (buildN ks probes size).getD i 0 = (fillAll ks (8 * size) probes (List.replicate size 0)).getD i 0 := by
      intro ks
      rw [buildN_eq _ _ _ h0]
      have : (fillAll ks (8 * size) probes (List.replicate size 0)).length = size := by rw [fillAll_length]; simp
      simp [List.getD, List.getElem?_append_left (show i < (fillAll ks (8 * size) probes (List.replicate size 0)).length by omega)]
    rw [h1, h1]
    refine bits_and (fun q hq => ?_) i
    rw [bitAt_fillAll _ (by omega) _ (by simp), bitAt_zero, Bool.or_false] at hq ⊢
    rw [List.any_eq_true] at hq ⊢
    obtain ⟨k, hk, hm⟩ := hq
    exact ⟨k, h k hk, hm⟩
  · by_cases hs : i = size
    · subst hs
      rw [buildN_last _ _ _ h0, buildN_last _ _ _ h0, Nat.and_self]
    · have : (buildN keys probes size).getD i 0 = 0 := by
        have hl := buildN_length keys probes size
        simp [List.getD, List.getElem?_eq_none (show (buildN keys probes size).length ≤ i by omega)]
      rw [this]
      exact Nat.zero_and _
theorem build_same {keys keys' : List (List UInt8)} {probes size : Nat} (h0 : 0 < size) (h : ∀ k, k ∈ keys ↔ k ∈ keys') : buildN keys probes size = buildN keys' probes size := by
  rw [buildN_eq _ _ _ h0, buildN_eq _ _ _ h0]
  congr 1
  refine bits_eq (by rw [fillAll_length, fillAll_length]) fun q => ?_
  rw [bitAt_fillAll _ (by omega) _ (by simp), bitAt_fillAll _ (by omega) _ (by simp)]
  congr 1
  rw [Bool.eq_iff_iff, List.any_eq_true, List.any_eq_true]
  constructor
  · rintro ⟨k, hk, hm⟩; exact ⟨k, (h k).1 hk, hm⟩
  · rintro ⟨k, hk, hm⟩; exact ⟨k, (h k).2 hk, hm⟩
end Go.Proofs.Ytbmimlplicdheaa
