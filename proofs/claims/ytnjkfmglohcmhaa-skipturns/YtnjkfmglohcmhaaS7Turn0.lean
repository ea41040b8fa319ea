/- What a step does to the levels: plainly. -/
import Derived.Test.YtnjkfmglohcmhaaS7Looks
namespace Go.Proofs.Ytnjkfmglohcmhaa
open Go.RowKit
set_option linter.unusedVariables false
section
variable {S : PS} {i : Nat}
abbrev PS.laid (S : PS) (i : Nat) : Prop := (S.op i).ph = 1 ∧ S.nx i = (S.op i).seen
theorem PS.step_key (S : PS) (i j : Nat) : (S.step i).key j = S.key j := by
  unfold PS.step
  repeat' split
  all_goals first | exact PS.put_key (by rfl) j | rfl
theorem PS.step_other {S : PS} {i j : Nat} (h : j ≠ i) : (S.step i).op j = S.op j := by
  unfold PS.step
  repeat' split
  all_goals first | exact PS.put_other h | rfl
theorem PS.step_lev (S : PS) (i l : Nat) : (S.step i).lev l = S.lev l ∨ (S.laid i ∧ l = (S.op i).level ∧ (S.step i).lev l = ins i (S.lev l) (S.op i).pos) := by
  unfold PS.step PS.laid
  split
  · split
    · exact .inl rfl
    · split
      · exact .inl rfl
      · exact .inl rfl
  · split
    · rename_i h1
      split
      · rename_i h2
        by_cases e : l = (S.op i).level
        · right
          refine ⟨⟨h1, h2⟩, e, ?_⟩
          split
          · show S.more i l = _
            unfold PS.more
            rw [if_pos e]
          · show S.more i l = _
            unfold PS.more
            rw [if_pos e]
        · left
          split
          · show S.more i l = _
            unfold PS.more
            rw [if_neg e]
          · show S.more i l = _
            unfold PS.more
            rw [if_neg e]
      · exact .inl rfl
    · split
      · split
        · exact .inl rfl
        · exact .inl rfl
      · exact .inl rfl
theorem PS.step_laid {S : PS} {i : Nat} (h : S.laid i) : (S.step i).lev (S.op i).level = ins i (S.lev (S.op i).level) (S.op i).pos := by
  obtain ⟨h1, h2⟩ := h
  unfold PS.step
  rw [if_neg (by omega), if_pos h1, if_pos h2]
  split
  · show S.more i _ = _
    unfold PS.more
    rw [if_pos rfl]
  · show S.more i _ = _
    unfold PS.more
    rw [if_pos rfl]
theorem PS.step_lk (S : PS) (i l : Nat) : (S.step i).lk l = ((S.step i).lev l).map S.key := by
  unfold PS.lk
  refine List.map_congr_left fun x _ => PS.step_key S i x
theorem PS.lk_grows (S : PS) (i l : Nat) : ∀ x ∈ S.lk l, x ∈ (S.step i).lk l := fun x hx => by
  rw [PS.step_lk]
  obtain ⟨j, hj, rfl⟩ := List.mem_map.1 hx
  refine List.mem_map.2 ⟨j, ?_, rfl⟩
  rcases PS.step_lev S i l with e | ⟨_, _, e⟩
  · rw [e]; exact hj
  · rw [e]; exact mem_ins.2 (.inr hj)
theorem PS.lk_len (S : PS) (l : Nat) : (S.lk l).length = (S.lev l).length := by simp [PS.lk]
/-- How many came into the first levels. -/
def cm (S : PS) (i n : Nat) : Nat := if S.laid i ∧ (S.op i).level < n then 1 else 0
theorem cm_le (S : PS) (i n : Nat) : cm S i n ≤ 1 := by unfold cm; split <;> omega
theorem cm_zero (S : PS) (i : Nat) : cm S i 0 = 0 := by unfold cm; rw [if_neg (by omega)]
theorem cm_stay {S : PS} {i n : Nat} (h : ¬ (S.laid i ∧ n = (S.op i).level)) : cm S i (n + 1) = cm S i n ∧ ((S.step i).lk n).length = (S.lk n).length := by
  constructor
  · unfold cm
    by_cases h1 : S.laid i ∧ (S.op i).level < n
    · rw [if_pos h1, if_pos ⟨h1.1, by omega⟩]
    · rw [if_neg h1, if_neg]
      rintro ⟨a, b⟩
      by_cases e : n = (S.op i).level
      · exact h ⟨a, e⟩
      · exact h1 ⟨a, by omega⟩
  · rw [PS.lk_len, PS.lk_len]
    rcases PS.step_lev S i n with e | ⟨a, b, _⟩
    · rw [e]
    · exact absurd ⟨a, b⟩ h
theorem cm_came {S : PS} {i n : Nat} (h : S.laid i ∧ n = (S.op i).level) : cm S i (n + 1) = 1 ∧ cm S i n = 0 ∧ ((S.step i).lk n).length = (S.lk n).length + 1 ∧ S.key i ∈ (S.step i).lk n := by
  obtain ⟨h1, rfl⟩ := h
  refine ⟨by unfold cm; rw [if_pos ⟨h1, by omega⟩], by unfold cm; rw [if_neg (by omega)], ?_, ?_⟩
  · rw [PS.lk_len, PS.lk_len, PS.step_laid h1, ins_length]
  · rw [PS.step_lk, PS.step_laid h1]
    exact List.mem_map.2 ⟨i, mem_ins.2 (.inl rfl), rfl⟩
def mixL (S : PS) (i n : Nat) : Nat → List ByteArray := fun l => if l < n then (S.step i).lk l else S.lk l
end
section
variable {w0 w : World} {p : Nat} {S : PS} {g : SG} {ka ha : Option Addr} {kc hc db wb : Nat} {dl : List Bool} {va : Nat → Option Addr} {vc : Nat → Nat} {L L' : Nat → List ByteArray}
theorem T7.congr (h : T7 w0 w p S g ka kc ha hc db wb dl va vc L) (e : ∀ l, l < 8 → L l = L' l) : T7 w0 w p S g ka kc ha hc db wb dl va vc L' :=
  ⟨h.l7, h.dn, h.wz.eq (wasArr_congr fun l hl => by simp only [e l hl]), fun l hl => by rw [← e l hl]; exact h.rows l hl, h.dm, h.wm⟩
end
end Go.Proofs.Ytnjkfmglohcmhaa
