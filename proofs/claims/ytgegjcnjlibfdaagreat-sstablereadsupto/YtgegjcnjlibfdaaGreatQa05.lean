/- A block laid entry by entry, plainly: what one entry more adds. -/
import Derived.Test.YtgegjcnjlibfdaaGreatC11FnA
import Derived.Test.YtgegjcnjlibfdaaGreatQa01
namespace Go.Proofs.YtgegjcnjlibfdaaGreat
set_option maxRecDepth 100000
set_option linter.unusedVariables false
set_option linter.unusedSimpArgs false
theorem chunks_short {iv : Nat} (hi : 1 ≤ iv) {m : List KV} (h0 : m ≠ []) (h : m.length ≤ iv) : chunks iv m = [m] := by
  rw [chunks_cons hi h0, List.take_of_length_le h, List.drop_eq_nil_of_le h, chunks_nil]
theorem chunks_mark {iv : Nat} (hi : 1 ≤ iv) (e : KV) (m : List KV) : m.length % iv = 0 → chunks iv (m ++ [e]) = chunks iv m ++ [[e]] := by
  refine chunks_ind hi (P := fun m => m.length % iv = 0 → chunks iv (m ++ [e]) = chunks iv m ++ [[e]]) (fun _ => ?_) (fun m hne ih hm => ?_) m
  · rw [List.nil_append, chunks_short hi (by simp) (by simpa using hi)]
    rfl
  · have h0 : 0 < m.length := List.length_pos_iff.2 hne
    have hge : iv ≤ m.length := by
      by_cases hlt : m.length < iv
      · rw [Nat.mod_eq_of_lt hlt] at hm
        omega
      · omega
    have hmod : (m.drop iv).length % iv = 0 := by
      rw [List.length_drop, ← Nat.mod_eq_sub_mod hge]
      exact hm
    rw [chunks_cons hi (by simp), List.take_append_of_le_length hge, List.drop_append_of_le_length hge, ih hmod, chunks_cons hi hne]
    rfl
theorem chunks_among {iv : Nat} (hi : 1 ≤ iv) (e : KV) (m : List KV) : m.length % iv ≠ 0 → ∃ init last, chunks iv m = init ++ [last] ∧ last ≠ [] ∧ chunks iv (m ++ [e]) = init ++ [last ++ [e]] := by
  refine chunks_ind hi (P := fun m => m.length % iv ≠ 0 → ∃ init last, chunks iv m = init ++ [last] ∧ last ≠ [] ∧ chunks iv (m ++ [e]) = init ++ [last ++ [e]]) (fun h => absurd (by simp) h) (fun m hne ih hm => ?_) m
  have h0 : 0 < m.length := List.length_pos_iff.2 hne
  by_cases hlt : m.length < iv
  · refine ⟨[], m, chunks_short hi hne (by omega), hne, ?_⟩
    rw [chunks_short hi (by simp) (by simp; omega)]
    rfl
  · have hge : iv ≤ m.length := by omega
    have hmod : (m.drop iv).length % iv ≠ 0 := by
      rw [List.length_drop, ← Nat.mod_eq_sub_mod hge]
      exact hm
    obtain ⟨init, last, h1, h2, h3⟩ := ih hmod
    refine ⟨m.take iv :: init, last, ?_, h2, ?_⟩
    · rw [chunks_cons hi hne, h1]
      rfl
    · rw [chunks_cons hi (by simp), List.take_append_of_le_length hge, List.drop_append_of_le_length hge, h3]
      rfl
/-- The key that an entry is laid behind. -/
def ahR (iv : Nat) (l : List KV) (k : Nat) : List UInt8 := if k % iv = 0 then [] else ahK l k
theorem strs_snoc {iv : Nat} (hi : 1 ≤ iv) (m : List KV) (e : KV) :
    ((strs iv (m ++ [e])).flatten = (strs iv m).flatten ++ entE (if m.length % iv = 0 then [] else ((m.getLast?).map (·.1.enc)).getD []) e) ∧
    (m.length % iv = 0 → placesB 0 (strs iv (m ++ [e])) = placesB 0 (strs iv m) ++ fxEnc ((strs iv m).flatten.length) 4 ∧ (strs iv (m ++ [e])).length = (strs iv m).length + 1) ∧
    (m.length % iv ≠ 0 → placesB 0 (strs iv (m ++ [e])) = placesB 0 (strs iv m) ∧ (strs iv (m ++ [e])).length = (strs iv m).length) := by
  by_cases hm : m.length % iv = 0
  · have hc := chunks_mark hi e m hm
    refine ⟨?_, fun _ => ⟨?_, ?_⟩, fun h => absurd hm h⟩
    · unfold strs
      rw [hc, if_pos hm]
      simp [strB]
    · unfold strs
      rw [hc, List.map_append]
      show placesB 0 (_ ++ [strB [] [e]]) = _
      rw [places_snoc, Nat.zero_add]
    · unfold strs
      rw [hc]
      simp
  · obtain ⟨init, last, h1, h2, h3⟩ := chunks_among hi e m hm
    have hfl := chunks_flat hi m
    rw [h1] at hfl
    have hlast : m.getLast? = last.getLast? := by
      rw [← hfl, List.flatten_append]
      simp only [List.flatten_cons, List.flatten_nil, List.append_nil]
      rw [List.getLast?_append, List.getLast?_eq_some_getLast h2]
      rfl
    refine ⟨?_, fun h => absurd h hm, fun _ => ⟨?_, ?_⟩⟩
    · unfold strs
      rw [h3, h1, if_neg hm, hlast, List.map_append, List.map_append, List.flatten_append, List.flatten_append]
      simp only [List.map_cons, List.map_nil, List.flatten_cons, List.flatten_nil, List.append_nil, List.append_assoc]
      rw [strB_snoc]
    · unfold strs
      rw [h3, h1, List.map_append, List.map_append]
      show placesB 0 (_ ++ [strB [] (last ++ [e])]) = placesB 0 (_ ++ [strB [] last])
      rw [places_snoc, places_snoc]
    · unfold strs
      rw [h3, h1]
      simp
theorem strs_take {iv : Nat} (hi : 1 ≤ iv) (l : List KV) (k : Nat) (hk : k < l.length) :
    ((strs iv (l.take (k + 1))).flatten = (strs iv (l.take k)).flatten ++ entE (ahR iv l k) l[k]) ∧
    (k % iv = 0 → placesB 0 (strs iv (l.take (k + 1))) = placesB 0 (strs iv (l.take k)) ++ fxEnc ((strs iv (l.take k)).flatten.length) 4 ∧ (strs iv (l.take (k + 1))).length = (strs iv (l.take k)).length + 1) ∧
    (k % iv ≠ 0 → placesB 0 (strs iv (l.take (k + 1))) = placesB 0 (strs iv (l.take k)) ∧ (strs iv (l.take (k + 1))).length = (strs iv (l.take k)).length) := by
  have hlen : (l.take k).length = k := by rw [List.length_take]; omega
  have := strs_snoc hi (l.take k) l[k]
  rw [hlen] at this
  rw [List.take_succ_eq_append_getElem hk]
  exact this
end Go.Proofs.YtgegjcnjlibfdaaGreat
/- How the document reads a block, plainly: entry by entry, and laid again; it is what the program's way reads. -/
namespace Go.Proofs.YtgegjcnjlibfdaaGreat
set_option linter.unusedVariables false
set_option linter.unusedSimpArgs false
theorem ents_fuel : ∀ (f g : Nat) (ah b : List UInt8), b.length ≤ f → b.length ≤ g → entsF f ah b = entsF g ah b
  | 0, g, ah, b, hf, _ => by
    obtain rfl := List.eq_nil_of_length_eq_zero (Nat.le_zero.1 hf)
    rw [entsF_nil, entsF_nil]
  | f + 1, 0, ah, b, _, hg => by
    obtain rfl := List.eq_nil_of_length_eq_zero (Nat.le_zero.1 hg)
    rw [entsF_nil, entsF_nil]
  | f + 1, g + 1, ah, b, hf, hg => by
    by_cases hb : b = []
    · subst hb
      rw [entsF_nil, entsF_nil]
    · cases ht : takeB b ah with
      | none => rw [entsF_no hb ht, entsF_no hb ht]
      | some x =>
        obtain ⟨e, key, rest⟩ := x
        have hl := (takeB_some ht).2.2.1
        rw [entsF_yes hb ht, entsF_yes hb ht, ents_fuel f g key rest (by omega) (by omega)]
/-- All entries of bytes behind a key. -/
def rd (ah b : List UInt8) : Option (List KV) := entsF b.length ah b
theorem rd_nil (ah : List UInt8) : rd ah [] = some [] := entsF_nil _ _
theorem rd_no {ah b : List UInt8} (h : b ≠ []) (h2 : takeB b ah = none) : rd ah b = none := entsF_no h h2
theorem rd_yes {ah b : List UInt8} {e : KV} {key rest : List UInt8} (h : b ≠ []) (h2 : takeB b ah = some (e, key, rest)) : rd ah b = (rd key rest).map (e :: ·) := by
  have hl := (takeB_some h2).2.2.1
  unfold rd
  rw [show b.length = (b.length - 1) + 1 by omega, entsF_yes h h2, ents_fuel (b.length - 1) rest.length key rest (by omega) (Nat.le_refl _)]
theorem rd_from {iv : Nat} (hi : 1 ≤ iv) {l : List KV} (hl : ∀ e ∈ l, EOk e) : ∀ (d k : Nat), k + d = l.length → ∃ t, (strs iv l).flatten = (strs iv (l.take k)).flatten ++ t ∧ rd (ahK l k) t = some (l.drop k)
  | 0, k, hk => ⟨[], by rw [List.take_of_length_le (by omega), List.append_nil], by rw [rd_nil, List.drop_eq_nil_of_le (by omega)]⟩
  | d + 1, k, hk => by
    obtain ⟨t, h1, h2⟩ := rd_from hi hl d (k + 1) (by omega)
    have hkl : k < l.length := by omega
    have ho := hl l[k] (List.getElem_mem hkl)
    rw [(strs_take hi l k hkl).1, List.append_assoc] at h1
    refine ⟨entE (ahR iv l k) l[k] ++ t, h1, ?_⟩
    have hah : ahR iv l k = ahK l k ∨ ahR iv l k = [] := by
      unfold ahR
      split
      · exact .inr rfl
      · exact .inl rfl
    have hsm : (ahR iv l k).length < 18446744073709551616 := by
      rcases hah with h | h
      · rw [h]
        by_cases h0 : k = 0
        · subst h0
          simp [ahK]
        · obtain ⟨j, rfl⟩ : ∃ j, k = j + 1 := ⟨k - 1, by omega⟩
          rw [ahK_succ l j (by omega)]
          have := enc_small (hl l[j] (List.getElem_mem _))
          omega
      · rw [h]
        simp
    rw [rd_yes (entE_ne _ _ _) (take_ent ho hah hsm t), ← ahK_succ l k hkl, h2, Option.map_some, List.drop_eq_getElem_cons hkl]
theorem rd_laid {iv : Nat} (hi : 1 ≤ iv) {l : List KV} (hl : ∀ e ∈ l, EOk e) : rd [] (strs iv l).flatten = some l := by
  obtain ⟨t, h1, h2⟩ := rd_from hi hl l.length 0 (by omega)
  have h0 : (strs iv (l.take 0)).flatten = [] := by simp [strs, chunks_nil]
  rw [h0, List.nil_append] at h1
  rw [h1]
  simpa [ahK] using h2
/-- What stands ahead of the marks. -/
def bodyOf (b : List UInt8) : List UInt8 := b.take (b.length - 5 - 4 * countOf b)
/-- What the document reads. -/
def readP (b : List UInt8) : Option (List KV) :=
  if 5 ≤ b.length ∧ countOf b ≤ b.length ∧ 5 + 4 * countOf b ≤ b.length then
    match rd [] (bodyOf b) with
    | some l => if (1 ≤ ivOf b ∧ ivOf b ≤ 16) ∧ chkL l = 0 ∧ layP (ivOf b) l = b then some l else none
    | none => none
  else none
section
variable {b : List UInt8} {l : List KV}
theorem readP_0 (h : ¬ (5 ≤ b.length ∧ countOf b ≤ b.length ∧ 5 + 4 * countOf b ≤ b.length)) : readP b = none := by
  unfold readP
  rw [if_neg h]
theorem readP_1 (h : rd [] (bodyOf b) = none) : readP b = none := by
  unfold readP
  rw [h]
  split <;> rfl
theorem readP_2 (h : rd [] (bodyOf b) = some l) (h2 : ¬ ((1 ≤ ivOf b ∧ ivOf b ≤ 16) ∧ chkL l = 0 ∧ layP (ivOf b) l = b)) : readP b = none := by
  unfold readP
  rw [h]
  simp only
  rw [if_neg h2]
  split <;> rfl
theorem readP_3 (h0 : 5 ≤ b.length ∧ countOf b ≤ b.length ∧ 5 + 4 * countOf b ≤ b.length) (h : rd [] (bodyOf b) = some l) (h2 : (1 ≤ ivOf b ∧ ivOf b ≤ 16) ∧ chkL l = 0 ∧ layP (ivOf b) l = b) : readP b = some l := by
  unfold readP
  rw [if_pos h0, h]
  simp only
  rw [if_pos h2]
end
/-- Both ways read the same. -/
theorem readP_open (b : List UInt8) (hb : b.length < 4294967296) : (readP b = none ∧ openP b = none) ∨ ∃ l ss ls, readP b = some l ∧ openP b = some (ss, ls) ∧ ls.flatten = l := by
  cases ho : openP b with
  | some x =>
    obtain ⟨ss, ls⟩ := x
    obtain ⟨h5, h1, h16, hck, hlay, _, _⟩ := open_some ho
    refine .inr ⟨ls.flatten, ss, ls, ?_, rfl, rfl⟩
    obtain ⟨v, hv⟩ : ∃ v, ivOf b = v := ⟨_, rfl⟩
    rw [hv] at h1 h16 hlay
    have hjl := join_len (iv := v) (ss := strs v ls.flatten)
    rw [← layP_join, ← hlay] at hjl
    have hco : countOf b = (strs v ls.flatten).length := by
      have := join_count (iv := v) (ss := strs v ls.flatten) (by omega)
      rw [← layP_join, ← hlay] at this
      exact this
    have hbo : bodyOf b = (strs v ls.flatten).flatten := by
      unfold bodyOf
      rw [hco, show b.length - 5 - 4 * (strs v ls.flatten).length = (strs v ls.flatten).flatten.length by omega]
      conv => lhs; rw [hlay]
      unfold layP
      exact List.take_left
    refine readP_3 ⟨h5, by omega, by omega⟩ ?_ ⟨⟨by omega, by omega⟩, hck, by rw [hv]; exact hlay.symm⟩
    rw [hbo]
    exact rd_laid h1 (chkL_zero.1 hck).1
  | none =>
    refine .inl ⟨?_, rfl⟩
    cases hr : rd [] (bodyOf b) with
    | none => exact readP_1 hr
    | some l =>
      by_cases h2 : (1 ≤ ivOf b ∧ ivOf b ≤ 16) ∧ chkL l = 0 ∧ layP (ivOf b) l = b
      · obtain ⟨⟨h1, h16⟩, hck, hlay⟩ := h2
        have := open_laid h1 h16 hck (by rw [hlay]; exact hb)
        rw [hlay, ho] at this
        cases this
      · exact readP_2 hr h2
end Go.Proofs.YtgegjcnjlibfdaaGreat
/- The plain mathematics of check sums. -/
namespace Go.Proofs.YtgegjcnjlibfdaaGreat

/-- A bit of a check sum, the lowest first. -/
def s1 (x : Nat) : Nat := if x % 2 = 1 then (x / 2) ^^^ 2197175160 else x / 2
def s1it : Nat → Nat → Nat
  | 0, x => x
  | k + 1, x => s1 (s1it k x)
def nib (x : Nat) : Nat := s1it 4 x
def crcHalf (x : Nat) : Nat := (x / 16) ^^^ nib (x % 16)
def crcByte (s c : Nat) : Nat := crcHalf (crcHalf (s ^^^ c))
def crcGo (s : Nat) (bs : List UInt8) : Nat := bs.foldl (fun s c => crcByte s c.toNat) s
def crc (bs : List UInt8) : Nat := 4294967295 ^^^ crcGo 4294967295 bs

theorem xor32 {a b : Nat} (ha : a < 4294967296) (hb : b < 4294967296) : a ^^^ b < 4294967296 := Nat.xor_lt_two_pow (n := 32) ha hb
theorem s1_lt {x : Nat} (h : x < 4294967296) : s1 x < 4294967296 := by
  unfold s1
  split
  · exact xor32 (by omega) (by omega)
  · omega
theorem s1it_lt : ∀ (k : Nat) {x : Nat}, x < 4294967296 → s1it k x < 4294967296
  | 0, _, h => h
  | k + 1, _, h => s1_lt (s1it_lt k h)
theorem nib_lt (x : Nat) (h : x < 4294967296) : nib x < 4294967296 := s1it_lt 4 h
theorem crcHalf_lt {x : Nat} (h : x < 4294967296) : crcHalf x < 4294967296 := xor32 (by omega) (nib_lt _ (by omega))
theorem crcByte_lt {s c : Nat} (h : s < 4294967296) (hc : c < 256) : crcByte s c < 4294967296 := crcHalf_lt (crcHalf_lt (xor32 h (by omega)))
theorem crcGo_lt : ∀ (bs : List UInt8) {s : Nat}, s < 4294967296 → crcGo s bs < 4294967296
  | [], _, h => h
  | c :: r, _, h => crcGo_lt r (crcByte_lt h (UInt8.toNat_lt c))
theorem crcGo_snoc (s : Nat) (bs : List UInt8) (c : UInt8) : crcGo s (bs ++ [c]) = crcByte (crcGo s bs) c.toNat := by simp [crcGo]
theorem crcGo_take (s : Nat) (bs : List UInt8) (k : Nat) (h : k < bs.length) : crcGo s (bs.take (k + 1)) = crcByte (crcGo s (bs.take k)) (bs.getD k 0).toNat := by
  rw [take_snoc bs k h, crcGo_snoc]
end Go.Proofs.YtgegjcnjlibfdaaGreat
/- Check sums: a step of a bit is linear and loses nothing, so a byte that is another makes another sum. -/
namespace Go.Proofs.YtgegjcnjlibfdaaGreat

theorem xor_half (a b : Nat) : (a ^^^ b) / 2 = a / 2 ^^^ b / 2 := by
  have := Nat.xor_div_two_pow (a := a) (b := b) (n := 1)
  simpa using this
theorem xor_odd (a b : Nat) : (a ^^^ b) % 2 = (a + b) % 2 := by
  have h : (a ^^^ b) % 2 = 1 ↔ ¬ (a % 2 = 1 ↔ b % 2 = 1) := by simp
  omega

theorem xor_swap (a b p : Nat) : (a ^^^ p) ^^^ (b ^^^ p) = a ^^^ b := by
  rw [Nat.xor_assoc, Nat.xor_comm b p, ← Nat.xor_assoc p p b, Nat.xor_self, Nat.zero_xor]
theorem s1_xor (a b : Nat) : s1 (a ^^^ b) = s1 a ^^^ s1 b := by
  have h := xor_odd a b
  have h1 : a % 2 = 0 ∨ a % 2 = 1 := by omega
  have h2 : b % 2 = 0 ∨ b % 2 = 1 := by omega
  unfold s1
  rw [xor_half]
  rcases h1 with h1 | h1 <;> rcases h2 with h2 | h2
  · rw [if_neg (by omega), if_neg (by omega), if_neg (by omega)]
  · rw [if_pos (by omega), if_neg (by omega), if_pos (by omega), Nat.xor_assoc]
  · rw [if_pos (by omega), if_pos (by omega), if_neg (by omega), Nat.xor_assoc, Nat.xor_assoc, Nat.xor_comm (b / 2)]
  · rw [if_neg (by omega), if_pos (by omega), if_pos (by omega), xor_swap]
theorem s1it_xor : ∀ (k a b : Nat), s1it k (a ^^^ b) = s1it k a ^^^ s1it k b
  | 0, _, _ => rfl
  | k + 1, a, b => by simp only [s1it, s1it_xor k a b, s1_xor]
theorem s1_even (y : Nat) : s1 (2 * y) = y := by unfold s1; rw [if_neg (by omega)]; omega
theorem nib16 (y : Nat) : nib (16 * y) = y := by
  have e : 16 * y = 2 * (2 * (2 * (2 * y))) := by omega
  rw [e]
  simp only [nib, s1it, s1_even]
theorem split16 (x : Nat) : x = 16 * (x / 16) ^^^ x % 16 := by
  apply Nat.eq_of_testBit_eq
  intro i
  rw [Nat.testBit_xor, show (16 : Nat) = 2 ^ 4 from rfl, Nat.testBit_two_pow_mul, Nat.testBit_mod_two_pow, Nat.testBit_div_two_pow]
  by_cases h : i < 4
  · simp [h, show ¬ 4 ≤ i by omega]
  · simp [h, show 4 ≤ i by omega, show i - 4 + 4 = i by omega]
theorem crcHalf_eq (x : Nat) : crcHalf x = nib x := by
  have e : nib x = nib (16 * (x / 16) ^^^ x % 16) := by rw [← split16]
  rw [e]
  unfold crcHalf nib
  rw [s1it_xor]
  have := nib16 (x / 16)
  unfold nib at this
  rw [this]

theorem s1_inj {a b : Nat} (ha : a < 4294967296) (hb : b < 4294967296) (h : s1 a = s1 b) : a = b := by
  have top : ∀ y, y < 2147483648 → (y ^^^ 2197175160).testBit 31 = true := by
    intro y hy
    rw [Nat.testBit_xor, Nat.testBit_lt_two_pow (show y < 2 ^ 31 by omega)]
    decide
  have low : ∀ y, y < 2147483648 → y.testBit 31 = false := fun y hy => Nat.testBit_lt_two_pow (show y < 2 ^ 31 by omega)
  unfold s1 at h
  by_cases h1 : a % 2 = 1 <;> by_cases h2 : b % 2 = 1
  · rw [if_pos h1, if_pos h2] at h
    have := congrArg (· ^^^ 2197175160) h
    simp only [Nat.xor_assoc, Nat.xor_self, Nat.xor_zero] at this
    omega
  · rw [if_pos h1, if_neg h2] at h
    have t := top (a / 2) (by omega)
    rw [h, low (b / 2) (by omega)] at t
    cases t
  · rw [if_neg h1, if_pos h2] at h
    have t := top (b / 2) (by omega)
    rw [← h, low (a / 2) (by omega)] at t
    cases t
  · rw [if_neg h1, if_neg h2] at h
    omega
theorem s1it_inj : ∀ (k : Nat) {a b : Nat}, a < 4294967296 → b < 4294967296 → s1it k a = s1it k b → a = b
  | 0, _, _, _, _, h => h
  | k + 1, _, _, ha, hb, h => s1it_inj k ha hb (s1_inj (s1it_lt k ha) (s1it_lt k hb) h)
theorem crcByte_eq (s c : Nat) : crcByte s c = nib (nib (s ^^^ c)) := by unfold crcByte; rw [crcHalf_eq, crcHalf_eq]
theorem crcByte_inj {s c t d : Nat} (h1 : s ^^^ c < 4294967296) (h2 : t ^^^ d < 4294967296) (h : crcByte s c = crcByte t d) : s ^^^ c = t ^^^ d := by
  rw [crcByte_eq, crcByte_eq] at h
  exact s1it_inj 4 h1 h2 (s1it_inj 4 (nib_lt _ h1) (nib_lt _ h2) h)
theorem xor_right_inj {a b c : Nat} (h : a ^^^ c = b ^^^ c) : a = b := by
  have := congrArg (· ^^^ c) h
  simpa [Nat.xor_assoc] using this
theorem crcGo_inj : ∀ (bs : List UInt8) {s t : Nat}, s < 4294967296 → t < 4294967296 → crcGo s bs = crcGo t bs → s = t
  | [], _, _, _, _, h => h
  | c :: r, s, t, hs, ht, h => by
    have hc : c.toNat < 4294967296 := Nat.lt_trans (UInt8.toNat_lt c) (by omega)
    have := crcGo_inj r (crcByte_lt hs (UInt8.toNat_lt c)) (crcByte_lt ht (UInt8.toNat_lt c)) h
    exact xor_right_inj (crcByte_inj (xor32 hs hc) (xor32 ht hc) this)
theorem crcGo_append (s : Nat) (l r : List UInt8) : crcGo s (l ++ r) = crcGo (crcGo s l) r := by simp [crcGo]
/-- One byte that is another makes another sum. -/
theorem crc_other (bs : List UInt8) (k : Nat) (x : UInt8) (hk : k < bs.length) (hx : bs.getD k 0 ≠ x) : crc bs ≠ crc (bs.set k x) := by
  intro h
  unfold crc at h
  have h1 : crcGo 4294967295 bs = crcGo 4294967295 (bs.set k x) := by
    have := congrArg (4294967295 ^^^ ·) h
    simpa [← Nat.xor_assoc] using this
  have e1 : bs = bs.take k ++ [bs.getD k 0] ++ bs.drop (k + 1) := by rw [← take_snoc bs k hk, List.take_append_drop]
  have e2 : bs.set k x = bs.take k ++ [x] ++ bs.drop (k + 1) := by rw [List.set_eq_take_append_cons_drop, if_pos hk]; simp
  have h0 : crcGo 4294967295 (bs.take k ++ [bs.getD k 0] ++ bs.drop (k + 1)) = crcGo 4294967295 (bs.take k ++ [x] ++ bs.drop (k + 1)) := by rw [← e1, ← e2]; exact h1
  simp only [crcGo_append] at h0
  have hp := crcGo_lt (bs.take k) (s := 4294967295) (by omega)
  have hb : ∀ c : UInt8, crcGo (crcGo 4294967295 (bs.take k)) [c] < 4294967296 := fun c => crcGo_lt [c] hp
  have h2 := crcGo_inj (bs.drop (k + 1)) (hb _) (hb _) h0
  have h3 := crcByte_inj (xor32 hp (Nat.lt_trans (UInt8.toNat_lt _) (by omega))) (xor32 hp (Nat.lt_trans (UInt8.toNat_lt _) (by omega))) h2
  rw [Nat.xor_comm, Nat.xor_comm (crcGo 4294967295 (bs.take k))] at h3
  exact hx (UInt8.toNat_inj.1 (xor_right_inj h3))
end Go.Proofs.YtgegjcnjlibfdaaGreat
/- The document's own check sum, bit by bit with the highest power first, is the one with the lowest first, turned round; masks go there and back. -/
namespace Go.Proofs.YtgegjcnjlibfdaaGreat

/-- k bits of n laid behind out, in the other order. -/
def rv : Nat → Nat → Nat → Nat
  | 0, _, out => out
  | k + 1, n, out => rv k (n / 2) (out * 2 + n % 2)
theorem rv_testBit : ∀ (k n out i : Nat), (rv k n out).testBit i = if i < k then n.testBit (k - 1 - i) else out.testBit (i - k)
  | 0, n, out, i => by simp [rv]
  | k + 1, n, out, i => by
    rw [rv, rv_testBit k]
    by_cases h1 : i < k
    · rw [if_pos h1, if_pos (by omega)]
      rw [show k + 1 - 1 - i = (k - 1 - i) + 1 by omega, Nat.testBit_add_one]
    · by_cases h2 : i = k
      · subst h2
        rw [if_neg (by omega), if_pos (by omega)]
        simp only [Nat.sub_self, Nat.add_sub_cancel, Nat.testBit_zero]
        congr 1
        simp only [eq_iff_iff]
        omega
      · rw [if_neg h1, if_neg (by omega), show i - k = (i - (k + 1)) + 1 by omega, Nat.testBit_add_one, show (out * 2 + n % 2) / 2 = out by omega]
theorem rv_lt : ∀ (k n out i : Nat), out < 2 ^ i → rv k n out < 2 ^ (i + k)
  | 0, n, out, i, h => by simpa [rv] using h
  | k + 1, n, out, i, h => by
    rw [rv, show i + (k + 1) = (i + 1) + k by omega]
    exact rv_lt k (n / 2) (out * 2 + n % 2) (i + 1) (by rw [Nat.pow_succ]; omega)
def rev (x : Nat) : Nat := rv 32 x 0
theorem rev_testBit (x i : Nat) : (rev x).testBit i = (decide (i < 32) && x.testBit (31 - i)) := by
  unfold rev
  rw [rv_testBit]
  by_cases h : i < 32
  · simp [h]
  · simp [h]
theorem rev_lt (x : Nat) : rev x < 4294967296 := rv_lt 32 x 0 0 (by simp)
theorem rev_xor (a b : Nat) : rev (a ^^^ b) = rev a ^^^ rev b := by
  apply Nat.eq_of_testBit_eq
  intro i
  simp only [rev_testBit, Nat.testBit_xor]
  cases decide (i < 32) <;> simp
theorem bit_hi {x i : Nat} (h : x < 4294967296) (hi : 32 ≤ i) : x.testBit i = false :=
  Nat.testBit_lt_two_pow (Nat.lt_of_lt_of_le (show x < 2 ^ 32 from h) (Nat.pow_le_pow_right (by omega) hi))
theorem rev_rev (x : Nat) (h : x < 4294967296) : rev (rev x) = x := by
  apply Nat.eq_of_testBit_eq
  intro i
  rw [rev_testBit, rev_testBit]
  by_cases hi : i < 32
  · simp [hi, show 31 - i < 32 by omega, show 31 - (31 - i) = i by omega]
  · simp [hi, bit_hi h (show 32 ≤ i by omega)]
theorem rev_all : rev 4294967295 = 4294967295 := by decide +kernel
theorem rev_byte (c : Nat) (hc : c < 256) : rev c = rv 8 c 0 * 16777216 := by
  apply Nat.eq_of_testBit_eq
  intro i
  rw [rev_testBit, Nat.mul_comm, show 16777216 = 2 ^ 24 from rfl, Nat.testBit_two_pow_mul, rv_testBit]
  by_cases h1 : 24 ≤ i
  · by_cases h2 : i < 32
    · simp [h1, h2, show i - 24 < 8 by omega, show 31 - i = 7 - (i - 24) by omega]
    · simp [h2, show ¬ i - 24 < 8 by omega]
  · have : c.testBit (31 - i) = false := Nat.testBit_lt_two_pow (Nat.lt_of_lt_of_le (show c < 2 ^ 8 from hc) (Nat.pow_le_pow_right (by omega) (show 8 ≤ 31 - i by omega)))
    simp [h1, this]
/-- A bit of a check sum, the highest first. -/
def m1 (y : Nat) : Nat := if y / 2147483648 = 1 then (y * 2 % 4294967296) ^^^ 517762881 else y * 2 % 4294967296
def m1it : Nat → Nat → Nat
  | 0, y => y
  | k + 1, y => m1 (m1it k y)
theorem m1_lt (y : Nat) : m1 y < 4294967296 := by
  unfold m1
  split
  · exact xor32 (Nat.mod_lt _ (by omega)) (by omega)
  · exact Nat.mod_lt _ (by omega)
theorem poly_bits : ∀ i : Fin 32, (517762881 : Nat).testBit i.val = (2197175160 : Nat).testBit (31 - i.val) := by decide
theorem top_bit (y : Nat) (h : y < 4294967296) : (y / 2147483648 = 1) ↔ y.testBit 31 = true := by
  have := Nat.testBit_div_two_pow (x := y) (i := 0) (n := 31)
  rw [Nat.zero_add] at this
  rw [← this, Nat.testBit_zero]
  simp
  omega
theorem rev_s1 (x : Nat) (h : x < 4294967296) : rev (s1 x) = m1 (rev x) := by
  have hodd : (rev x / 2147483648 = 1) ↔ x % 2 = 1 := by
    rw [top_bit _ (rev_lt x), rev_testBit]
    simp [Nat.testBit_zero]
  apply Nat.eq_of_testBit_eq
  intro i
  rw [rev_testBit]
  have hm : (rev x * 2 % 4294967296).testBit i = (decide (i < 32) && x.testBit (32 - i)) := by
    rw [show (4294967296 : Nat) = 2 ^ 32 from rfl, Nat.testBit_mod_two_pow]
    by_cases hi : i < 32
    · cases i with
      | zero => simp [bit_hi h (Nat.le_refl 32)]
      | succ j =>
        rw [Nat.testBit_add_one, Nat.mul_div_cancel _ (by omega), rev_testBit]
        rw [show 31 - j = 32 - (j + 1) by omega, decide_eq_true (show j < 32 by omega), decide_eq_true hi]
        rfl
    · simp [hi]
  by_cases hi : i < 32
  · have hp := poly_bits ⟨i, hi⟩
    simp only at hp
    unfold s1 m1
    by_cases ho : x % 2 = 1
    · rw [if_pos ho, if_pos (hodd.2 ho), Nat.testBit_xor, Nat.testBit_xor, hm, hp, ← Nat.testBit_add_one]
      simp [hi, show 31 - i + 1 = 32 - i by omega]
    · rw [if_neg ho, if_neg (fun e => ho (hodd.1 e)), hm, ← Nat.testBit_add_one]
      simp [hi, show 31 - i + 1 = 32 - i by omega]
  · simp [hi, bit_hi (m1_lt (rev x)) (show 32 ≤ i by omega)]
theorem rev_s1it : ∀ (k x : Nat), x < 4294967296 → rev (s1it k x) = m1it k (rev x)
  | 0, _, _ => rfl
  | k + 1, x, h => by rw [s1it, rev_s1 _ (s1it_lt k h), rev_s1it k x h, m1it]
theorem nib_nib (x : Nat) : nib (nib x) = s1it 8 x := rfl
/-- A byte of the document's check sum. -/
def rcByte (y c : Nat) : Nat := m1it 8 (y ^^^ rv 8 c 0 * 16777216)
theorem rcByte_eq (s c : Nat) (hs : s < 4294967296) (hc : c < 256) : rcByte (rev s) c = rev (crcByte s c) := by
  unfold rcByte
  rw [crcByte_eq, nib_nib, rev_s1it 8 _ (xor32 hs (by omega)), rev_xor, rev_byte c hc]
theorem rc_end (s : Nat) (h : s < 4294967296) : rev (4294967295 ^^^ rev s) = 4294967295 ^^^ s := by
  rw [rev_xor, rev_all, rev_rev s h]

/-- Masks. -/
def maskN (n : Nat) : Nat := (n / 32768 + n % 32768 * 131072 + 2726488792) % 4294967296
def unmaskN (n : Nat) : Nat := (n + 1568478504) % 4294967296 % 131072 * 32768 + (n + 1568478504) % 4294967296 / 131072
theorem maskN_lt (n : Nat) : maskN n < 4294967296 := Nat.mod_lt _ (by omega)
theorem unmaskN_lt (n : Nat) : unmaskN n < 4294967296 := by unfold unmaskN; omega
theorem add_sub32 (m : Nat) (h : m < 4294967296) : ((m + 2726488792) % 4294967296 + 1568478504) % 4294967296 = m := by omega
theorem sub_add32 (m : Nat) (h : m < 4294967296) : ((m + 1568478504) % 4294967296 + 2726488792) % 4294967296 = m := by omega
theorem unmask_mask (n : Nat) (h : n < 4294967296) : unmaskN (maskN n) = n := by
  unfold unmaskN maskN
  rw [add_sub32 _ (by omega)]
  omega
theorem mask_unmask (n : Nat) (h : n < 4294967296) : maskN (unmaskN n) = n := by
  unfold maskN
  have e1 : unmaskN n / 32768 = (n + 1568478504) % 4294967296 % 131072 := by unfold unmaskN; omega
  have e2 : unmaskN n % 32768 = (n + 1568478504) % 4294967296 / 131072 := by unfold unmaskN; omega
  rw [e1, e2, show (n + 1568478504) % 4294967296 % 131072 + (n + 1568478504) % 4294967296 / 131072 * 131072 = (n + 1568478504) % 4294967296 by omega]
  exact sub_add32 n h
theorem mask_or (n : Nat) (h : n < 4294967296) : n / 32768 ||| n * 131072 % 4294967296 = n / 32768 + n % 32768 * 131072 := by
  have e : n * 131072 % 4294967296 = 2 ^ 17 * (n % 32768) := by omega
  have := Nat.two_pow_add_eq_or_of_lt (i := 17) (b := n / 32768) (show n / 32768 < 2 ^ 17 by omega) (n % 32768)
  rw [e, Nat.or_comm, ← this]
  omega
theorem unmask_or (m : Nat) (h : m < 4294967296) : m * 32768 % 4294967296 ||| m / 131072 = m % 131072 * 32768 + m / 131072 := by
  have e : m * 32768 % 4294967296 = 2 ^ 15 * (m % 131072) := by omega
  have := Nat.two_pow_add_eq_or_of_lt (i := 15) (b := m / 131072) (show m / 131072 < 2 ^ 15 by omega) (m % 131072)
  rw [e, ← this]
  omega
end Go.Proofs.YtgegjcnjlibfdaaGreat
