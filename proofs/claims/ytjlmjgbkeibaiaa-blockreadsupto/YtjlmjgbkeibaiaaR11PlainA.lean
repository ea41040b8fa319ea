/- A block laid entry by entry, plainly: what one entry more adds. -/
import Derived.Test.YtjlmjgbkeibaiaaC11FnA
namespace Go.Proofs.Ytjlmjgbkeibaiaa
set_option linter.unusedVariables false
set_option linter.unusedSimpArgs false
theorem chunks_short {iv : Nat} (hi : 1 ≤ iv) {m : List KV} (h0 : m ≠ []) (h : m.length ≤ iv) : chunks iv m = [m] := by
  rw [chunks_cons hi h0, List.take_of_length_le h, List.drop_eq_nil_of_le h, chunks_nil]
theorem chunks_mark {iv : Nat} (hi : 1 ≤ iv) (e : KV) (m : List KV) : m.length % iv = 0 → chunks iv (m ++ [e]) = chunks iv m ++ [[e]] := by
  refine chunks_ind hi (P := fun m => m.length % iv = 0 → chunks iv (m ++ [e]) = chunks iv m ++ [[e]]) (fun _ => ?_) (fun m hne ih hm => ?_) m
  · rw [List.nil_append, chunks_short hi (by simp) (by simpa using hi)]
    rfl
  · have h0 : 0 < m.length := List.length_pos_iff.2 hne
    have hge : iv ≤ m.length := by
      by_cases hlt : m.length < iv
      · rw [Nat.mod_eq_of_lt hlt] at hm
        omega
      · omega
    have hmod : (m.drop iv).length % iv = 0 := by
      rw [List.length_drop, ← Nat.mod_eq_sub_mod hge]
      exact hm
    rw [chunks_cons hi (by simp), List.take_append_of_le_length hge, List.drop_append_of_le_length hge, ih hmod, chunks_cons hi hne]
    rfl
theorem chunks_among {iv : Nat} (hi : 1 ≤ iv) (e : KV) (m : List KV) : m.length % iv ≠ 0 → ∃ init last, chunks iv m = init ++ [last] ∧ last ≠ [] ∧ chunks iv (m ++ [e]) = init ++ [last ++ [e]] := by
  refine chunks_ind hi (P := fun m => m.length % iv ≠ 0 → ∃ init last, chunks iv m = init ++ [last] ∧ last ≠ [] ∧ chunks iv (m ++ [e]) = init ++ [last ++ [e]]) (fun h => absurd (by simp) h) (fun m hne ih hm => ?_) m
  have h0 : 0 < m.length := List.length_pos_iff.2 hne
  by_cases hlt : m.length < iv
  · refine ⟨[], m, chunks_short hi hne (by omega), hne, ?_⟩
    rw [chunks_short hi (by simp) (by simp; omega)]
    rfl
  · have hge : iv ≤ m.length := by omega
    have hmod : (m.drop iv).length % iv ≠ 0 := by
      rw [List.length_drop, ← Nat.mod_eq_sub_mod hge]
      exact hm
    obtain ⟨init, last, h1, h2, h3⟩ := ih hmod
    refine ⟨m.take iv :: init, last, ?_, h2, ?_⟩
    · rw [chunks_cons hi hne, h1]
      rfl
    · rw [chunks_cons hi (by simp), List.take_append_of_le_length hge, List.drop_append_of_le_length hge, h3]
      rfl
/-- The key that an entry is laid behind. -/
def ahR (iv : Nat) (l : List KV) (k : Nat) : List UInt8 := if k % iv = 0 then [] else ahK l k
theorem strs_snoc {iv : Nat} (hi : 1 ≤ iv) (m : List KV) (e : KV) :
    ((strs iv (m ++ [e])).flatten = (strs iv m).flatten ++ entE (if m.length % iv = 0 then [] else ((m.getLast?).map (·.1.enc)).getD []) e) ∧
    (m.length % iv = 0 → placesB 0 (strs iv (m ++ [e])) = placesB 0 (strs iv m) ++ fxEnc ((strs iv m).flatten.length) 4 ∧ (strs iv (m ++ [e])).length = (strs iv m).length + 1) ∧
    (m.length % iv ≠ 0 → placesB 0 (strs iv (m ++ [e])) = placesB 0 (strs iv m) ∧ (strs iv (m ++ [e])).length = (strs iv m).length) := by
  by_cases hm : m.length % iv = 0
  · have hc := chunks_mark hi e m hm
    refine ⟨?_, fun _ => ⟨?_, ?_⟩, fun h => absurd hm h⟩
    · unfold strs
      rw [hc, if_pos hm]
      simp [strB]
    · unfold strs
      rw [hc, List.map_append]
      show placesB 0 (_ ++ [strB [] [e]]) = _
      rw [places_snoc, Nat.zero_add]
    · unfold strs
      rw [hc]
      simp
  · obtain ⟨init, last, h1, h2, h3⟩ := chunks_among hi e m hm
    have hfl := chunks_flat hi m
    rw [h1] at hfl
    have hlast : m.getLast? = last.getLast? := by
      rw [← hfl, List.flatten_append]
      simp only [List.flatten_cons, List.flatten_nil, List.append_nil]
      rw [List.getLast?_append, List.getLast?_eq_some_getLast h2]
      rfl
    refine ⟨?_, fun h => absurd h hm, fun _ => ⟨?_, ?_⟩⟩
    · unfold strs
      rw [h3, h1, if_neg hm, hlast, List.map_append, List.map_append, List.flatten_append, List.flatten_append]
      simp only [List.map_cons, List.map_nil, List.flatten_cons, List.flatten_nil, List.append_nil, List.append_assoc]
      rw [strB_snoc]
    · unfold strs
      rw [h3, h1, List.map_append, List.map_append]
      show placesB 0 (_ ++ [strB [] (last ++ [e])]) = placesB 0 (_ ++ [strB [] last])
      rw [places_snoc, places_snoc]
    · unfold strs
      rw [h3, h1]
      simp
theorem strs_take {iv : Nat} (hi : 1 ≤ iv) (l : List KV) (k : Nat) (hk : k < l.length) :
    ((strs iv (l.take (k + 1))).flatten = (strs iv (l.take k)).flatten ++ entE (ahR iv l k) l[k]) ∧
    (k % iv = 0 → placesB 0 (strs iv (l.take (k + 1))) = placesB 0 (strs iv (l.take k)) ++ fxEnc ((strs iv (l.take k)).flatten.length) 4 ∧ (strs iv (l.take (k + 1))).length = (strs iv (l.take k)).length + 1) ∧
    (k % iv ≠ 0 → placesB 0 (strs iv (l.take (k + 1))) = placesB 0 (strs iv (l.take k)) ∧ (strs iv (l.take (k + 1))).length = (strs iv (l.take k)).length) := by
  have hlen : (l.take k).length = k := by rw [List.length_take]; omega
  have := strs_snoc hi (l.take k) l[k]
  rw [hlen] at this
  rw [List.take_succ_eq_append_getElem hk]
  exact this
end Go.Proofs.Ytjlmjgbkeibaiaa
/- How the document reads a block, plainly: entry by entry, and laid again; it is what the program's way reads. -/
namespace Go.Proofs.Ytjlmjgbkeibaiaa
set_option linter.unusedVariables false
set_option linter.unusedSimpArgs false
theorem ents_fuel : ∀ (f g : Nat) (ah b : List UInt8), b.length ≤ f → b.length ≤ g → entsF f ah b = entsF g ah b
  | 0, g, ah, b, hf, _ => by
    obtain rfl := List.eq_nil_of_length_eq_zero (Nat.le_zero.1 hf)
    rw [entsF_nil, entsF_nil]
  | f + 1, 0, ah, b, _, hg => by
    obtain rfl := List.eq_nil_of_length_eq_zero (Nat.le_zero.1 hg)
    rw [entsF_nil, entsF_nil]
  | f + 1, g + 1, ah, b, hf, hg => by
    by_cases hb : b = []
    · subst hb
      rw [entsF_nil, entsF_nil]
    · cases ht : takeB b ah with
      | none => rw [entsF_no hb ht, entsF_no hb ht]
      | some x =>
        obtain ⟨e, key, rest⟩ := x
        have hl := (takeB_some ht).2.2.1
        rw [entsF_yes hb ht, entsF_yes hb ht, ents_fuel f g key rest (by omega) (by omega)]
/-- All entries of bytes behind a key. -/
def rd (ah b : List UInt8) : Option (List KV) := entsF b.length ah b
theorem rd_nil (ah : List UInt8) : rd ah [] = some [] := entsF_nil _ _
theorem rd_no {ah b : List UInt8} (h : b ≠ []) (h2 : takeB b ah = none) : rd ah b = none := entsF_no h h2
theorem rd_yes {ah b : List UInt8} {e : KV} {key rest : List UInt8} (h : b ≠ []) (h2 : takeB b ah = some (e, key, rest)) : rd ah b = (rd key rest).map (e :: ·) := by
  have hl := (takeB_some h2).2.2.1
  unfold rd
  rw [show b.length = (b.length - 1) + 1 by omega, entsF_yes h h2, ents_fuel (b.length - 1) rest.length key rest (by omega) (Nat.le_refl _)]
theorem rd_from {iv : Nat} (hi : 1 ≤ iv) {l : List KV} (hl : ∀ e ∈ l, EOk e) : ∀ (d k : Nat), k + d = l.length → ∃ t, (strs iv l).flatten = (strs iv (l.take k)).flatten ++ t ∧ rd (ahK l k) t = some (l.drop k)
  | 0, k, hk => ⟨[], by rw [List.take_of_length_le (by omega), List.append_nil], by rw [rd_nil, List.drop_eq_nil_of_le (by omega)]⟩
  | d + 1, k, hk => by
    obtain ⟨t, h1, h2⟩ := rd_from hi hl d (k + 1) (by omega)
    have hkl : k < l.length := by omega
    have ho := hl l[k] (List.getElem_mem hkl)
    rw [(strs_take hi l k hkl).1, List.append_assoc] at h1
    refine ⟨entE (ahR iv l k) l[k] ++ t, h1, ?_⟩
    have hah : ahR iv l k = ahK l k ∨ ahR iv l k = [] := by
      unfold ahR
      split
      · exact .inr rfl
      · exact .inl rfl
    have hsm : (ahR iv l k).length < 18446744073709551616 := by
      rcases hah with h | h
      · rw [h]
        by_cases h0 : k = 0
        · subst h0
          simp [ahK]
        · obtain ⟨j, rfl⟩ : ∃ j, k = j + 1 := ⟨k - 1, by omega⟩
          rw [ahK_succ l j (by omega)]
          have := enc_small (hl l[j] (List.getElem_mem _))
          omega
      · rw [h]
        simp
    rw [rd_yes (entE_ne _ _ _) (take_ent ho hah hsm t), ← ahK_succ l k hkl, h2, Option.map_some, List.drop_eq_getElem_cons hkl]
theorem rd_laid {iv : Nat} (hi : 1 ≤ iv) {l : List KV} (hl : ∀ e ∈ l, EOk e) : rd [] (strs iv l).flatten = some l := by
  obtain ⟨t, h1, h2⟩ := rd_from hi hl l.length 0 (by omega)
  have h0 : (strs iv (l.take 0)).flatten = [] := by simp [strs, chunks_nil]
  rw [h0, List.nil_append] at h1
  rw [h1]
  simpa [ahK] using h2
/-- What stands ahead of the marks. -/
def bodyOf (b : List UInt8) : List UInt8 := b.take (b.length - 5 - 4 * countOf b)
/-- What the document reads. -/
def readP (b : List UInt8) : Option (List KV) :=
  if 5 ≤ b.length ∧ countOf b ≤ b.length ∧ 5 + 4 * countOf b ≤ b.length then
    match rd [] (bodyOf b) with
    | some l => if (1 ≤ ivOf b ∧ ivOf b ≤ 16) ∧ chkL l = 0 ∧ layP (ivOf b) l = b then some l else none
    | none => none
  else none
section
variable {b : List UInt8} {l : List KV}
theorem readP_0 (h : ¬ (5 ≤ b.length ∧ countOf b ≤ b.length ∧ 5 + 4 * countOf b ≤ b.length)) : readP b = none := by
  unfold readP
  rw [if_neg h]
theorem readP_1 (h : rd [] (bodyOf b) = none) : readP b = none := by
  unfold readP
  rw [h]
  split <;> rfl
theorem readP_2 (h : rd [] (bodyOf b) = some l) (h2 : ¬ ((1 ≤ ivOf b ∧ ivOf b ≤ 16) ∧ chkL l = 0 ∧ layP (ivOf b) l = b)) : readP b = none := by
  unfold readP
  rw [h]
  simp only
  rw [if_neg h2]
  split <;> rfl
theorem readP_3 (h0 : 5 ≤ b.length ∧ countOf b ≤ b.length ∧ 5 + 4 * countOf b ≤ b.length) (h : rd [] (bodyOf b) = some l) (h2 : (1 ≤ ivOf b ∧ ivOf b ≤ 16) ∧ chkL l = 0 ∧ layP (ivOf b) l = b) : readP b = some l := by
  unfold readP
  rw [if_pos h0, h]
  simp only
  rw [if_pos h2]
end
/-- Both ways read the same. -/
theorem readP_open (b : List UInt8) (hb : b.length < 4294967296) : (readP b = none ∧ openP b = none) ∨ ∃ l ss ls, readP b = some l ∧ openP b = some (ss, ls) ∧ ls.flatten = l := by
  cases ho : openP b with
  | some x =>
    obtain ⟨ss, ls⟩ := x
    obtain ⟨h5, h1, h16, hck, hlay, _, _⟩ := open_some ho
    refine .inr ⟨ls.flatten, ss, ls, ?_, rfl, rfl⟩
    obtain ⟨v, hv⟩ : ∃ v, ivOf b = v := ⟨_, rfl⟩
    rw [hv] at h1 h16 hlay
    have hjl := join_len (iv := v) (ss := strs v ls.flatten)
    rw [← layP_join, ← hlay] at hjl
    have hco : countOf b = (strs v ls.flatten).length := by
      have := join_count (iv := v) (ss := strs v ls.flatten) (by omega)
      rw [← layP_join, ← hlay] at this
      exact this
    have hbo : bodyOf b = (strs v ls.flatten).flatten := by
      unfold bodyOf
      rw [hco, show b.length - 5 - 4 * (strs v ls.flatten).length = (strs v ls.flatten).flatten.length by omega]
      conv => lhs; rw [hlay]
      unfold layP
      exact List.take_left
    refine readP_3 ⟨h5, by omega, by omega⟩ ?_ ⟨⟨by omega, by omega⟩, hck, by rw [hv]; exact hlay.symm⟩
    rw [hbo]
    exact rd_laid h1 (chkL_zero.1 hck).1
  | none =>
    refine .inl ⟨?_, rfl⟩
    cases hr : rd [] (bodyOf b) with
    | none => exact readP_1 hr
    | some l =>
      by_cases h2 : (1 ≤ ivOf b ∧ ivOf b ≤ 16) ∧ chkL l = 0 ∧ layP (ivOf b) l = b
      · obtain ⟨⟨h1, h16⟩, hck, hlay⟩ := h2
        have := open_laid h1 h16 hck (by rw [hlay]; exact hb)
        rw [hlay, ho] at this
        cases this
      · exact readP_2 hr h2
end Go.Proofs.Ytjlmjgbkeibaiaa
