/- The plain mathematics of filters: a key's number, the places of its bits, and what is set; no program is spoken of here. -/
import Derived.Test.YtgegjcnjlibfdaaGreatQa01
import Derived.Test.YtgegjcnjlibfdaaGreatQa03
import Derived.Test.YtgegjcnjlibfdaaGreatQa05
namespace Go.Proofs.YtgegjcnjlibfdaaGreat

/-- A part of a key is mixed in. -/
def mixN (h n s : Nat) : Nat := ((h + n) % 4294967296 * 3332679571 % 4294967296) ^^^ ((h + n) % 4294967296 * 3332679571 % 4294967296 / 2 ^ s)
def hashGo : Nat → List UInt8 → Nat
  | h, a :: b :: c :: d :: r => hashGo (mixN h (leNat [a, b, c, d]) 16) r
  | h, [] => h
  | h, l => mixN h (leNat l) 24
/-- A key's number. -/
def hashN (k : List UInt8) : Nat := hashGo (3164544308 ^^^ (k.length % 4294967296 * 3332679571 % 4294967296)) k
/-- The number, turned round to the right by 17. -/
def stepN (h : Nat) : Nat := h / 131072 + h % 131072 * 32768
/-- The number ahead of probe i; its place. -/
def atN (h i : Nat) : Nat := (h + i * stepN h) % 4294967296
/-- The places of a key's bits. -/
def plc (k : List UInt8) (count probes : Nat) : List Nat := (List.range probes).map fun i => atN (hashN k) i % count

theorem mixN_lt (h n s : Nat) : mixN h n s < 4294967296 :=
  Nat.xor_lt_two_pow (n := 32) (Nat.mod_lt _ (by omega)) (Nat.lt_of_le_of_lt (Nat.div_le_self _ _) (Nat.mod_lt _ (by omega)))
theorem hashGo_step (h : Nat) (l : List UInt8) (hl : 4 ≤ l.length) : hashGo h l = hashGo (mixN h (leNat (l.take 4)) 16) (l.drop 4) := by
  match l, hl with
  | a :: b :: c :: d :: r, _ => rw [hashGo]; rfl
  | [], h => simp at h
  | [_], h => simp at h
  | [_, _], h => simp at h
  | [_, _, _], h => simp at h
theorem hashGo_last (h : Nat) (l : List UInt8) (hl : l.length < 4) (h0 : 0 < l.length) : hashGo h l = mixN h (leNat l) 24 := by
  match l, hl, h0 with
  | [a], _, _ => rfl
  | [a, b], _, _ => rfl
  | [a, b, c], _, _ => rfl
  | [], _, h => simp at h
  | _ :: _ :: _ :: _ :: _, h, _ => simp at h; omega
theorem hashGo_nil (h : Nat) : hashGo h [] = h := rfl
theorem hash0_lt (n : Nat) : 3164544308 ^^^ (n % 4294967296 * 3332679571 % 4294967296) < 4294967296 := Nat.xor_lt_two_pow (n := 32) (by omega) (Nat.mod_lt _ (by omega))
theorem hashGo_lt (n : Nat) : ∀ (l : List UInt8), l.length ≤ n → ∀ h, h < 4294967296 → hashGo h l < 4294967296 := by
  induction n with
  | zero =>
    intro l hl h hh
    obtain rfl := List.eq_nil_of_length_eq_zero (Nat.le_zero.1 hl)
    exact hh
  | succ n ih =>
    intro l hl h hh
    by_cases h4 : 4 ≤ l.length
    · rw [hashGo_step h l h4]
      exact ih _ (by simp; omega) _ (mixN_lt _ _ _)
    · by_cases h0 : l.length = 0
      · obtain rfl := List.eq_nil_of_length_eq_zero h0
        exact hh
      · rw [hashGo_last h l (by omega) (by omega)]
        exact mixN_lt _ _ _
theorem hashN_lt (k : List UInt8) : hashN k < 4294967296 := hashGo_lt _ k (Nat.le_refl _) _ (hash0_lt _)
theorem stepN_lt {h : Nat} (hh : h < 4294967296) : stepN h < 4294967296 := by unfold stepN; omega
theorem atN_zero {h : Nat} (hh : h < 4294967296) : atN h 0 = h := by unfold atN; omega
theorem atN_next (h i : Nat) : atN h (i + 1) = (atN h i + stepN h) % 4294967296 := by
  unfold atN
  rw [Nat.add_mul, Nat.one_mul, ← Nat.add_assoc, Nat.mod_add_mod]
theorem atN_lt (h i : Nat) : atN h i < 4294967296 := Nat.mod_lt _ (by omega)
/-- Turned round, as the program reckons it. -/
theorem turn_or (h : Nat) (hh : h < 4294967296) : (h * 32768 % 4294967296) ||| (h / 131072) = stepN h := by
  unfold stepN
  have h1 : h / 131072 < 2 ^ 15 := by omega
  have h2 : h * 32768 % 4294967296 = 2 ^ 15 * (h % 131072) := by omega
  rw [h2, ← Nat.two_pow_add_eq_or_of_lt h1]
  omega

/-- A bit of bytes. -/
def bitAt (l : List UInt8) (p : Nat) : Bool := (l.getD (p / 8) 0).toNat.testBit (p % 8)
/-- A byte with a bit set. -/
def orBit (c : UInt8) (k : Nat) : UInt8 := UInt8.ofNat (c.toNat ||| 2 ^ k)
def setBit (l : List UInt8) (p : Nat) : List UInt8 := l.set (p / 8) (orBit (l.getD (p / 8) 0) (p % 8))
def fill (l : List UInt8) (ps : List Nat) : List UInt8 := ps.foldl setBit l
def fillAll (keys : List (List UInt8)) (count probes : Nat) (l : List UInt8) : List UInt8 := keys.foldl (fun l k => fill l (plc k count probes)) l
/-- The filter of keys. -/
def buildN (keys : List (List UInt8)) (probes size : Nat) : List UInt8 := fillAll keys (8 * size) probes (List.replicate size 0 ++ [UInt8.ofNat probes])
/-- Whether a key may be there. -/
def mayN (f : List UInt8) (k : List UInt8) : Bool :=
  decide (f.length < 2) || decide ((f.getD (f.length - 1) 0).toNat < 1) || decide (30 < (f.getD (f.length - 1) 0).toNat) ||
    (plc k (8 * (f.length - 1)) (f.getD (f.length - 1) 0).toNat).all fun p => bitAt f p

theorem pow8 {k : Nat} (hk : k < 8) : 2 ^ k < 256 := Nat.pow_lt_pow_right (a := 2) (by omega) hk
theorem orBit_toNat (c : UInt8) {k : Nat} (hk : k < 8) : (orBit c k).toNat = c.toNat ||| 2 ^ k := by
  have h : c.toNat ||| 2 ^ k < 2 ^ 8 := Nat.or_lt_two_pow (UInt8.toNat_lt c) (pow8 hk)
  simp only [orBit, UInt8.toNat_ofNat']
  exact Nat.mod_eq_of_lt h
theorem setBit_length (l : List UInt8) (p : Nat) : (setBit l p).length = l.length := by simp [setBit]
theorem fill_length (l : List UInt8) (ps : List Nat) : (fill l ps).length = l.length := by
  induction ps generalizing l with
  | nil => rfl
  | cons p ps ih => exact (ih _).trans (setBit_length _ _)
theorem fillAll_length (keys : List (List UInt8)) (count probes : Nat) (l : List UInt8) : (fillAll keys count probes l).length = l.length := by
  induction keys generalizing l with
  | nil => rfl
  | cons k ks ih => exact (ih _).trans (fill_length _ _)
theorem buildN_length (keys : List (List UInt8)) (probes size : Nat) : (buildN keys probes size).length = size + 1 := by
  rw [buildN, fillAll_length]; simp
theorem getD_set (l : List UInt8) (i j : Nat) (c : UInt8) (hi : i < l.length) : (l.set i c).getD j 0 = if i = j then c else l.getD j 0 := by
  simp only [List.getD, List.getElem?_set]
  by_cases h : i = j
  · subst h; simp [hi]
  · simp [h]
theorem bitAt_set (l : List UInt8) (p q : Nat) (hp : p / 8 < l.length) : bitAt (setBit l p) q = (decide (p = q) || bitAt l q) := by
  unfold bitAt setBit
  rw [getD_set _ _ _ _ hp]
  by_cases h : p / 8 = q / 8
  · rw [if_pos h, orBit_toNat _ (Nat.mod_lt _ (by omega)), Nat.testBit_or, h, Nat.testBit_two_pow, Bool.or_comm]
    congr 1
    by_cases h2 : p = q
    · subst h2; simp
    · rw [decide_eq_false h2, decide_eq_false (by omega)]
  · rw [if_neg h, decide_eq_false (by omega), Bool.false_or]
theorem bitAt_fill (l : List UInt8) (ps : List Nat) (h : ∀ p ∈ ps, p / 8 < l.length) (q : Nat) : bitAt (fill l ps) q = (decide (q ∈ ps) || bitAt l q) := by
  induction ps generalizing l with
  | nil => simp [fill]
  | cons p ps ih =>
    have := ih (setBit l p) (fun x hx => by rw [setBit_length]; exact h x (List.mem_cons_of_mem _ hx))
    show bitAt (fill (setBit l p) ps) q = _
    rw [this, bitAt_set _ _ _ (h p (List.mem_cons_self ..))]
    by_cases h1 : q ∈ ps
    · simp [h1]
    · by_cases h2 : p = q
      · subst h2; simp
      · have h3 : ¬ q = p := fun e => h2 e.symm
        simp [h1, h2, h3]
theorem plc_lt (k : List UInt8) {count probes : Nat} (hc : 0 < count) : ∀ p ∈ plc k count probes, p < count := by
  intro p hp
  obtain ⟨i, _, rfl⟩ := List.mem_map.1 hp
  exact Nat.mod_lt _ hc
theorem bitAt_fillAll (keys : List (List UInt8)) {count probes : Nat} (hc : 0 < count) (l : List UInt8) (h : count ≤ 8 * l.length) (q : Nat) :
    bitAt (fillAll keys count probes l) q = (keys.any (fun k => decide (q ∈ plc k count probes)) || bitAt l q) := by
  induction keys generalizing l with
  | nil => simp [fillAll]
  | cons k ks ih =>
    show bitAt (fillAll ks count probes (fill l (plc k count probes))) q = _
    rw [ih _ (by rw [fill_length]; exact h), bitAt_fill _ _ (fun p hp => by have := plc_lt k hc p hp; omega)]
    simp only [List.any_cons]
    rw [← Bool.or_assoc, Bool.or_comm (ks.any _)]
/-- Bytes that have the same bits are the same. -/
theorem bits_eq {l m : List UInt8} (hl : l.length = m.length) (h : ∀ q, bitAt l q = bitAt m q) : l = m := by
  refine List.ext_getElem hl fun i h1 h2 => ?_
  refine UInt8.toNat_inj.1 (Nat.eq_of_testBit_eq fun j => ?_)
  by_cases hj : j < 8
  · have := h (8 * i + j)
    unfold bitAt at this
    rw [show (8 * i + j) / 8 = i by omega, show (8 * i + j) % 8 = j by omega] at this
    simpa [List.getD, h1, h2] using this
  · rw [Nat.testBit_lt_two_pow, Nat.testBit_lt_two_pow]
    · exact Nat.lt_of_lt_of_le (UInt8.toNat_lt _) (Nat.pow_le_pow_right (n := 2) (by omega) (show 8 ≤ j by omega))
    · exact Nat.lt_of_lt_of_le (UInt8.toNat_lt _) (Nat.pow_le_pow_right (n := 2) (by omega) (show 8 ≤ j by omega))
/-- Bytes whose bits the other ones have. -/
theorem bits_and {l m : List UInt8} (h : ∀ q, bitAt l q = true → bitAt m q = true) (i : Nat) : (l.getD i 0).toNat &&& (m.getD i 0).toNat = (l.getD i 0).toNat := by
  refine Nat.eq_of_testBit_eq fun j => ?_
  rw [Nat.testBit_and]
  by_cases hj : j < 8
  · have := h (8 * i + j)
    unfold bitAt at this
    rw [show (8 * i + j) / 8 = i by omega, show (8 * i + j) % 8 = j by omega] at this
    cases hb : (l.getD i 0).toNat.testBit j with
    | false => rfl
    | true => rw [this hb]; rfl
  · rw [Nat.testBit_lt_two_pow, Bool.false_and]
    exact Nat.lt_of_lt_of_le (UInt8.toNat_lt _) (Nat.pow_le_pow_right (n := 2) (by omega) (show 8 ≤ j by omega))
/-- What stands behind the places that are set stays. -/
theorem setBit_app (l : List UInt8) (c : UInt8) {p : Nat} (hp : p < 8 * l.length) : setBit (l ++ [c]) p = setBit l p ++ [c] := by
  unfold setBit
  have h : p / 8 < l.length := by omega
  rw [List.set_append_left _ _ h]
  congr 2
  simp [List.getD, List.getElem?_append_left h]
theorem fill_app (l : List UInt8) (c : UInt8) (ps : List Nat) (h : ∀ p ∈ ps, p < 8 * l.length) : fill (l ++ [c]) ps = fill l ps ++ [c] := by
  induction ps generalizing l with
  | nil => rfl
  | cons p ps ih =>
    show fill (setBit (l ++ [c]) p) ps = fill (setBit l p) ps ++ [c]
    rw [setBit_app _ _ (h p (List.mem_cons_self ..))]
    exact ih _ (fun x hx => by rw [setBit_length]; exact h x (List.mem_cons_of_mem _ hx))
theorem fillAll_app (keys : List (List UInt8)) {probes : Nat} (l : List UInt8) (c : UInt8) (h0 : 0 < l.length) {count : Nat} (hc : count = 8 * l.length) : fillAll keys count probes (l ++ [c]) = fillAll keys count probes l ++ [c] := by
  induction keys generalizing l with
  | nil => rfl
  | cons k ks ih =>
    show fillAll ks count probes (fill (l ++ [c]) (plc k count probes)) = fillAll ks count probes (fill l (plc k count probes)) ++ [c]
    rw [fill_app _ _ _ (fun p hp => by have := plc_lt k (show 0 < count by omega) p hp; omega)]
    exact ih _ (by rw [fill_length]; exact h0) (by rw [fill_length]; exact hc)
theorem buildN_eq (keys : List (List UInt8)) (probes size : Nat) (h0 : 0 < size) : buildN keys probes size = fillAll keys (8 * size) probes (List.replicate size 0) ++ [UInt8.ofNat probes] := by
  unfold buildN
  exact fillAll_app keys _ _ (by simpa using h0) (by simp)
theorem bitAt_zero (n q : Nat) : bitAt (List.replicate n 0) q = false := by
  unfold bitAt
  have : (List.replicate n (0 : UInt8)).getD (q / 8) 0 = 0 := by
    simp only [List.getD, List.getElem?_replicate]
    split <;> rfl
  rw [this]
  exact Nat.zero_testBit _
theorem buildN_last (keys : List (List UInt8)) (probes size : Nat) (h0 : 0 < size) : (buildN keys probes size).getD size 0 = UInt8.ofNat probes := by
  rw [buildN_eq _ _ _ h0]
  have : (fillAll keys (8 * size) probes (List.replicate size 0)).length = size := by rw [fillAll_length]; simp
  rw [List.getD_eq_getElem?_getD, List.getElem?_append_right (by omega), this]
  simp
theorem bitAt_app (l : List UInt8) (c : UInt8) {q : Nat} (h : q < 8 * l.length) : bitAt (l ++ [c]) q = bitAt l q := by
  unfold bitAt
  simp [List.getD, List.getElem?_append_left (show q / 8 < l.length by omega)]
theorem bitAt_build (keys : List (List UInt8)) (probes size : Nat) (h0 : 0 < size) {q : Nat} (hq : q < 8 * size) : bitAt (buildN keys probes size) q = keys.any (fun k => decide (q ∈ plc k (8 * size) probes)) := by
  have hl : (fillAll keys (8 * size) probes (List.replicate size 0)).length = size := by rw [fillAll_length]; simp
  rw [buildN_eq _ _ _ h0, bitAt_app _ _ (by omega), bitAt_fillAll keys (by omega) _ (by simp), bitAt_zero, Bool.or_false]
/-- Each key of a filter may be there. -/
theorem may_build (keys : List (List UInt8)) (probes size : Nat) (h0 : 0 < size) (hp : probes < 256) {k : List UInt8} (hk : k ∈ keys) : mayN (buildN keys probes size) k = true := by
  unfold mayN
  rw [buildN_length, Nat.add_sub_cancel, buildN_last _ _ _ h0]
  have e : (UInt8.ofNat probes).toNat = probes := by
    simp only [UInt8.toNat_ofNat']
    exact Nat.mod_eq_of_lt hp
  rw [e]
  have : ((plc k (8 * size) probes).all fun p => bitAt (buildN keys probes size) p) = true := by
    rw [List.all_eq_true]
    intro p hpm
    rw [bitAt_build _ _ _ h0 (plc_lt k (by omega) p hpm), List.any_eq_true]
    exact ⟨k, hk, decide_eq_true hpm⟩
  rw [this, Bool.or_true]
theorem build_sub {keys keys' : List (List UInt8)} {probes size : Nat} (h0 : 0 < size) (h : ∀ k ∈ keys, k ∈ keys') (i : Nat) :
    ((buildN keys probes size).getD i 0).toNat &&& ((buildN keys' probes size).getD i 0).toNat = ((buildN keys probes size).getD i 0).toNat := by
  by_cases hi : i < size
  · have h1 : ∀ ks : List (List UInt8), (buildN ks probes size).getD i 0 = (fillAll ks (8 * size) probes (List.replicate size 0)).getD i 0 := by
      intro ks
      rw [buildN_eq _ _ _ h0]
      have : (fillAll ks (8 * size) probes (List.replicate size 0)).length = size := by rw [fillAll_length]; simp
      simp [List.getD, List.getElem?_append_left (show i < (fillAll ks (8 * size) probes (List.replicate size 0)).length by omega)]
    rw [h1, h1]
    refine bits_and (fun q hq => ?_) i
    rw [bitAt_fillAll _ (by omega) _ (by simp), bitAt_zero, Bool.or_false] at hq ⊢
    rw [List.any_eq_true] at hq ⊢
    obtain ⟨k, hk, hm⟩ := hq
    exact ⟨k, h k hk, hm⟩
  · by_cases hs : i = size
    · subst hs
      rw [buildN_last _ _ _ h0, buildN_last _ _ _ h0, Nat.and_self]
    · have : (buildN keys probes size).getD i 0 = 0 := by
        have hl := buildN_length keys probes size
        simp [List.getD, List.getElem?_eq_none (show (buildN keys probes size).length ≤ i by omega)]
      rw [this]
      exact Nat.zero_and _
theorem build_same {keys keys' : List (List UInt8)} {probes size : Nat} (h0 : 0 < size) (h : ∀ k, k ∈ keys ↔ k ∈ keys') : buildN keys probes size = buildN keys' probes size := by
  rw [buildN_eq _ _ _ h0, buildN_eq _ _ _ h0]
  congr 1
  refine bits_eq (by rw [fillAll_length, fillAll_length]) fun q => ?_
  rw [bitAt_fillAll _ (by omega) _ (by simp), bitAt_fillAll _ (by omega) _ (by simp)]
  congr 1
  rw [Bool.eq_iff_iff, List.any_eq_true, List.any_eq_true]
  constructor
  · rintro ⟨k, hk, hm⟩; exact ⟨k, (h k).1 hk, hm⟩
  · rintro ⟨k, hk, hm⟩; exact ⟨k, (h k).2 hk, hm⟩
end Go.Proofs.YtgegjcnjlibfdaaGreat
/- Tables, plainly: parts with their sums, places, the last bytes, the index; what is laid is opened. -/
namespace Go.Proofs.YtgegjcnjlibfdaaGreat
set_option maxRecDepth 100000
/-- A part's sum. -/
def sumN (b : List UInt8) : Nat := maskN (crc b)
theorem sumN_lt (b : List UInt8) : sumN b < 4294967296 := maskN_lt _
theorem crc_lt (b : List UInt8) : crc b < 4294967296 := xor32 (by omega) (crcGo_lt _ (by omega))
def partB (b : List UInt8) : List UInt8 := b ++ fxEnc (sumN b) 4
theorem partB_len (b : List UInt8) : (partB b).length = b.length + 4 := by simp [partB, fxEnc_length]
/-- A part's bytes without its sum; whether the sum is theirs. -/
def bodyB (p : List UInt8) : List UInt8 := p.take (p.length - 4)
def okP (p : List UInt8) : Bool := decide (leNat ((p.drop (p.length - 4)).take 4) = sumN (bodyB p))
theorem bodyB_part (b : List UInt8) : bodyB (partB b) = b := by
  unfold bodyB
  rw [partB_len, Nat.add_sub_cancel]
  simp [partB]
theorem four_enc (n : Nat) (h : n < 4294967296) : leNat (fxEnc n 4) = n := by
  rw [leNat_fxEnc]
  omega
theorem okP_part (b : List UInt8) : okP (partB b) = true := by
  unfold okP
  rw [bodyB_part, partB_len, Nat.add_sub_cancel]
  have : (partB b).drop b.length = fxEnc (sumN b) 4 := by simp [partB]
  rw [this, List.take_of_length_le (by rw [fxEnc_length]; omega), four_enc _ (sumN_lt _)]
  simp
theorem maskN_inj {a b : Nat} (ha : a < 4294967296) (hb : b < 4294967296) (h : maskN a = maskN b) : a = b := by
  rw [← unmask_mask a ha, h, unmask_mask b hb]
theorem leNat_inj : ∀ {l m : List UInt8}, l.length = m.length → leNat l = leNat m → l = m
  | [], [], _, _ => rfl
  | a :: l, b :: m, hl, h => by
    simp only [leNat] at h
    have h1 : a.toNat < 256 := UInt8.toNat_lt a
    have h2 : b.toNat < 256 := UInt8.toNat_lt b
    have e1 : a = b := UInt8.toNat_inj.1 (by omega)
    have e2 : l = m := leNat_inj (by simpa using hl) (by omega)
    rw [e1, e2]
/-- A part in which a byte is another has another sum. -/
theorem okP_turned (b : List UInt8) (k : Nat) (x : UInt8) (hk : k < b.length + 4) (hx : (partB b).getD k 0 ≠ x) : okP ((partB b).set k x) = false := by
  unfold okP bodyB
  rw [List.length_set, partB_len, Nat.add_sub_cancel]
  apply decide_eq_false
  by_cases h : k < b.length
  · have e1 : ((partB b).set k x).drop b.length = fxEnc (sumN b) 4 := by
      rw [List.drop_set_of_lt (by omega)]
      simp [partB]
    have e2 : ((partB b).set k x).take b.length = b.set k x := by
      unfold partB
      rw [List.set_append_left _ _ h, List.take_left' (by simp)]
    rw [e1, e2, List.take_of_length_le (by rw [fxEnc_length]; omega), four_enc _ (sumN_lt _)]
    intro e
    refine crc_other b k x h ?_ (maskN_inj (crc_lt _) (crc_lt _) e)
    intro e3
    apply hx
    rw [← e3]
    unfold partB
    simp [List.getD, List.getElem?_append_left h]
  · have e2 : ((partB b).set k x).take b.length = b := by
      unfold partB
      rw [List.set_append_right _ _ (by omega), List.take_left' rfl]
    have e1 : ((partB b).set k x).drop b.length = (fxEnc (sumN b) 4).set (k - b.length) x := by
      unfold partB
      rw [List.set_append_right _ _ (by omega), List.drop_left' rfl]
    rw [e1, e2, List.take_of_length_le (by rw [List.length_set, fxEnc_length]; omega)]
    intro e
    have e3 : (fxEnc (sumN b) 4).set (k - b.length) x = fxEnc (sumN b) 4 := leNat_inj (by simp) (by rw [e, four_enc _ (sumN_lt _)])
    apply hx
    have hl := fxEnc_length (sumN b) 4
    unfold partB
    rw [List.getD, List.getElem?_append_right (by omega), ← e3, List.getElem?_set, if_pos rfl, if_pos (by omega)]
    rfl
/-- A place as an index tells it. -/
def plV (a s : Nat) : List UInt8 := uvEnc a ++ uvEnc s
def plOf (v : List UInt8) : Option (Nat × Nat) :=
  if plV (uvRead v).1 (uvRead (v.drop (uvRead v).2.1)).1 = v then some ((uvRead v).1, (uvRead (v.drop (uvRead v).2.1)).1) else none
theorem plV_len (a s : Nat) : (plV a s).length ≤ 20 := by
  have h1 := uvEnc_length a
  have h2 := uvEnc_length s
  simp [plV]
  omega
theorem plV_read {a s : Nat} (ha : a < 18446744073709551616) (hs : s < 18446744073709551616) : uvRead (plV a s) = (a, (uvEnc a).length, 0) ∧ uvRead ((plV a s).drop (uvEnc a).length) = (s, (uvEnc s).length, 0) := by
  constructor
  · exact uvRead_enc a ha _
  · have := uvRead_enc s hs []
    simpa [plV] using this
theorem plOf_laid {a s : Nat} (ha : a < 18446744073709551616) (hs : s < 18446744073709551616) : plOf (plV a s) = some (a, s) := by
  obtain ⟨h1, h2⟩ := plV_read ha hs
  unfold plOf
  rw [h1]
  dsimp only
  rw [h2, if_pos rfl]
theorem plOf_some {v : List UInt8} {a s : Nat} (h : plOf v = some (a, s)) : v = plV a s ∧ a < 18446744073709551616 ∧ s < 18446744073709551616 := by
  unfold plOf at h
  split at h
  · rename_i e
    cases h
    exact ⟨e.symm, (uvRead_ok _).1, (uvRead_ok _).1⟩
  · cases h
def segB (b : List UInt8) (i n : Nat) : List UInt8 := (b.drop i).take n
/-- A number of four bytes. -/
def num4 (b : List UInt8) (i : Nat) : Nat := leNat (segB b i 4)
theorem num4_lt (b : List UInt8) (i : Nat) : num4 b i < 4294967296 := by
  have h := leNat_lt (segB b i 4)
  have h2 : (segB b i 4).length ≤ 4 := by simp [segB]; omega
  have h3 : 256 ^ (segB b i 4).length ≤ 256 ^ 4 := Nat.pow_le_pow_right (by omega) h2
  unfold num4
  omega
def wordB : List UInt8 := [115, 116, 97, 100, 100, 108, 101, 49]
/-- What the last bytes tell: the filter's place, the index', how many entries. -/
structure Ft where
  fa : Nat
  fn : Nat
  xa : Nat
  xn : Nat
  cnt : Nat
def ftAt (b : List UInt8) : Ft := ⟨num4 b (b.length - 28), num4 b (b.length - 24), num4 b (b.length - 20), num4 b (b.length - 16), num4 b (b.length - 12)⟩
def footOk (b : List UInt8) : Bool := decide (28 ≤ b.length ∧ b.drop (b.length - 8) = wordB ∧ (ftAt b).fa + (ftAt b).fn + 4 = (ftAt b).xa ∧ (ftAt b).xa + (ftAt b).xn + 4 = b.length - 28)
/-- A table: its filter, its blocks' bytes with their last keys, how many entries are told. -/
structure TD where
  filter : List UInt8
  blocks : List (List UInt8 × IK)
  told : Nat
def idxGo (body : List UInt8) : Nat → List KV → Option (List (List UInt8 × IK))
  | at_, [] => if at_ = body.length then some [] else none
  | at_, e :: r => match plOf e.2.data.toList with
    | none => none
    | some (p, s) => if p = at_ ∧ at_ + s + 4 ≤ body.length then (idxGo body (at_ + s + 4) r).map ((segB body at_ (s + 4), e.1) :: ·) else none
def openT (b : List UInt8) : Except Nat TD :=
  if footOk b = false then .error 121
  else if okP (segB b (ftAt b).fa ((ftAt b).fn + 4)) = false then .error 122
  else if okP (segB b (ftAt b).xa ((ftAt b).xn + 4)) = false then .error 122
  else match openP (segB b (ftAt b).xa (ftAt b).xn) with
    | none => .error 121
    | some (_, ls) => if ls.flatten = [] ∨ layP 1 ls.flatten ≠ segB b (ftAt b).xa (ftAt b).xn then .error 121
      else match idxGo (b.take (ftAt b).fa) 0 ls.flatten with
        | none => .error 121
        | some bl => .ok ⟨segB b (ftAt b).fa (ftAt b).fn, bl, (ftAt b).cnt⟩
def sameK (a b : IK) : Bool := decide (a.user = b.user) && (decide (a.seq = b.seq) && decide (a.kind = b.kind))
theorem sameK_iff {a b : IK} : sameK a b = true ↔ a = b := by
  cases a
  cases b
  simp [sameK]
theorem sameK_no {a b : IK} : sameK a b = false ↔ a ≠ b := by
  rw [ne_eq, ← sameK_iff]
  cases sameK a b <;> simp
def lastIs (l : List KV) (k : IK) : Bool := match l.getLast? with
  | some e => sameK e.1 k
  | none => false
/-- A block is read. -/
def readS (p : List UInt8) (k : IK) : Except Nat (List KV) :=
  if okP p = false then .error 122 else match openP (bodyB p) with
    | none => .error 121
    | some (_, ls) => if lastIs ls.flatten k = true then .ok ls.flatten else .error 121
/-- Is the last one ahead not ahead of the first? -/
def clash (acc l : List KV) : Bool := match acc.getLast?, l.head? with
  | some x, some y => decide (0 ≤ x.1.cmp y.1)
  | _, _ => false
def allGo : List KV → List (List UInt8 × IK) → Except Nat (List KV)
  | acc, [] => .ok acc
  | acc, x :: r => match readS x.1 x.2 with
    | .error e => .error e
    | .ok l => if clash acc l = true then .error 121 else allGo (acc ++ l) r
def allT (T : TD) : Except Nat (List KV) := match allGo [] T.blocks with
  | .error e => .error e
  | .ok l => if l.length = T.told then .ok l else .error 121
structure Ans where
  value : ByteArray
  what : Nat
  err : Nat
def noA : Ans := ⟨⟨#[]⟩, 0, 0⟩
def theK (u : ByteArray) (s : Nat) : IK := ⟨u, min s 72057594037927935, 1⟩
/-- What entries that rise tell of a user's key. -/
def ansOf (u : ByteArray) (k : IK) (l : List KV) : Ans := match l.find? (fun e => decide (0 ≤ e.1.cmp k)) with
  | none => noA
  | some e => if e.1.user = u then (if e.1.kind = 0 then ⟨⟨#[]⟩, 1, 0⟩ else ⟨e.2, 2, 0⟩) else noA
def getT (T : TD) (u : ByteArray) (s : Nat) : Ans :=
  if mayN T.filter u.data.toList = false then noA else match T.blocks.find? (fun x => decide (0 ≤ x.2.cmp (theK u s))) with
    | none => noA
    | some x => match readS x.1 x.2 with
      | .error e => ⟨⟨#[]⟩, 0, e⟩
      | .ok l => ansOf u (theK u s) l
end Go.Proofs.YtgegjcnjlibfdaaGreat
