/- A block laid entry by entry, plainly: what one entry more adds. -/
import Derived.Test.YtjlmjgbkeibaiaaC11FnA
namespace Go.Proofs.Ytjlmjgbkeibaiaa
set_option linter.unusedVariables false
set_option linter.unusedSimpArgs false
theorem chunks_short {iv : Nat} (hi : 1 ≤ iv) {m : List KV} (h0 : m ≠ []) (h : m.length ≤ iv) : chunks iv m = [m] := by
  rw [chunks_cons hi h0, List.take_of_length_le h, List.drop_eq_nil_of_le h, chunks_nil]
theorem chunks_mark {iv : Nat} (hi : 1 ≤ iv) (e : KV) (m : List KV) : m.length % iv = 0 → chunks iv (m ++ [e]) = chunks iv m ++ [[e]] := by
  refine chunks_ind hi (P := fun m => m.length % iv = 0 → chunks iv (m ++ [e]) = chunks iv m ++ [[e]]) (fun _ => ?_) (fun m hne ih hm => ?_) m
  · rw [List.nil_append, chunks_short hi (by simp) (by simpa using hi)]
    rfl
  · have h0 : 0 < m.length := List.length_pos_iff.2 hne
    have hge : iv ≤ m.length := by
      by_cases hlt : m.length < iv
      · rw [Nat.mod_eq_of_lt hlt] at hm
        omega
      · omega
    have hmod : (m.drop iv).length % iv = 0 := by
      rw [List.length_drop, ← Nat.mod_eq_sub_mod hge]
      exact hm
    rw [chunks_cons hi (by simp), List.take_append_of_le_length hge, List.drop_append_of_le_length hge, ih hmod, chunks_cons hi hne]
    rfl
theorem chunks_among {iv : Nat} (hi : 1 ≤ iv) (e : KV) (m : List KV) : m.length % iv ≠ 0 → ∃ init last, chunks iv m = init ++ [last] ∧ last ≠ [] ∧ chunks iv (m ++ [e]) = init ++ [last ++ [e]] := by
  refine chunks_ind hi (P := fun m => m.length % iv ≠ 0 → ∃ init last, chunks iv m = init ++ [last] ∧ last ≠ [] ∧ chunks iv (m ++ [e]) = init ++ [last ++ [e]]) (fun h => absurd (by simp) h) (fun m hne ih hm => ?_) m
  have h0 : 0 < m.length := List.length_pos_iff.2 hne
  by_cases hlt : m.length < iv
  · refine ⟨[], m, chunks_short hi hne (by omega), hne, ?_⟩
    rw [chunks_short hi (by simp) (by simp; omega)]
    rfl
  · have hge : iv ≤ m.length := by omega
    have hmod : (m.drop iv).length % iv ≠ 0 := by
      rw [List.length_drop, ← Nat.mod_eq_sub_mod hge]
      exact hm
    obtain ⟨init, last, h1, h2, h3⟩ := ih hmod
    refine ⟨m.take iv :: init, last, ?_, h2, ?_⟩
    · rw [chunks_cons hi hne, h1]
      rfl
    · rw [chunks_cons hi (by simp), List.take_append_of_le_length hge, List.drop_append_of_le_length hge, h3]
      rfl
/-- The key that an entry is laid behind. -/
def ahR (iv : Nat) (l : List KV) (k : Nat) : List UInt8 := if k % iv = 0 then [] else ahK l k
theorem strs_snoc {iv : Nat} (hi : 1 ≤ iv) (m : List KV) (e : KV) :
    ((strs iv (m ++ [e])).flatten = (strs iv m).flatten ++ entE (if m.length % iv = 0 then [] else ((m.getLast?).map (·.1.enc)).getD []) e) ∧
    (m.length % iv = 0 → placesB 0 (strs iv (m ++ [e])) = placesB 0 (strs iv m) ++ fxEnc ((strs iv m).flatten.length) 4 ∧ (strs iv (m ++ [e])).length = (strs iv m).length + 1) ∧
    (m.length % iv ≠ 0 → placesB 0 (strs iv (m ++ [e])) = placesB 0 (strs iv m) ∧ (strs iv (m ++ [e])).length = (strs iv m).length) := by
  by_cases hm : m.length % iv = 0
  · have hc := chunks_mark hi e m hm
    refine ⟨?_, fun _ => ⟨?_, ?_⟩, fun h => absurd hm h⟩
    · unfold strs
      rw [hc, if_pos hm]
      simp [strB]
    · unfold strs
      rw [hc, List.map_append]
      show placesB 0 (_ ++ [strB [] [e]]) = _
      rw [places_snoc, Nat.zero_add]
    · unfold strs
      rw [hc]
      simp
  · obtain ⟨init, last, h1, h2, h3⟩ := chunks_among hi e m hm
    have hfl := chunks_flat hi m
    rw [h1] at hfl
    have hlast : m.getLast? = last.getLast? := by
      rw [← hfl, List.flatten_append]
      simp only [List.flatten_cons, List.flatten_nil, List.append_nil]
      rw [List.getLast?_append, List.getLast?_eq_some_getLast h2]
      rfl
    refine ⟨?_, fun h => absurd h hm, fun _ => ⟨?_, ?_⟩⟩
    · unfold strs
      rw [h3, h1, if_neg hm, hlast, List.map_append, List.map_append, List.flatten_append, List.flatten_append]
      simp only [List.map_cons, List.map_nil, List.flatten_cons, List.flatten_nil, List.append_nil, List.append_assoc]
      rw [strB_snoc]
    · unfold strs
      rw [h3, h1, List.map_append, List.map_append]
      show placesB 0 (_ ++ [strB [] (last ++ [e])]) = placesB 0 (_ ++ [strB [] last])
      rw [places_snoc, places_snoc]
    · unfold strs
      rw [h3, h1]
      simp
theorem strs_take {iv : Nat} (hi : 1 ≤ iv) (l : List KV) (k : Nat) (hk : k < l.length) :
    ((strs iv (l.take (k + 1))).flatten = (strs iv (l.take k)).flatten ++ entE (ahR iv l k) l[k]) ∧
    (k % iv = 0 → placesB 0 (strs iv (l.take (k + 1))) = placesB 0 (strs iv (l.take k)) ++ fxEnc ((strs iv (l.take k)).flatten.length) 4 ∧ (strs iv (l.take (k + 1))).length = (strs iv (l.take k)).length + 1) ∧
    (k % iv ≠ 0 → placesB 0 (strs iv (l.take (k + 1))) = placesB 0 (strs iv (l.take k)) ∧ (strs iv (l.take (k + 1))).length = (strs iv (l.take k)).length) := by
  have hlen : (l.take k).length = k := by rw [List.length_take]; omega
  have := strs_snoc hi (l.take k) l[k]
  rw [hlen] at this
  rw [List.take_succ_eq_append_getElem hk]
  exact this
end Go.Proofs.Ytjlmjgbkeibaiaa
