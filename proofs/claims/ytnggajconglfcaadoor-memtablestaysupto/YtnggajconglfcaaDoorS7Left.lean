/- How many steps are left; what a step leaves: plainly. -/
import Derived.Test.YtnggajconglfcaaDoorS7Step
namespace Go.Proofs.YtnggajconglfcaaDoor
theorem countP_le {l : List Nat} {f h : Nat → Bool} (hp : ∀ x, f x = true → h x = true) : l.countP f ≤ l.countP h := List.countP_mono_left fun x _ => hp x
theorem countP_lt {f h : Nat → Bool} (hp : ∀ x, f x = true → h x = true) {y : Nat} (hy : h y = true) (hny : f y = false) : ∀ {l : List Nat}, y ∈ l → l.countP f < l.countP h
  | [], hm => by cases hm
  | x :: r, hm => by
    have hle := countP_le (l := r) hp
    rw [List.countP_cons, List.countP_cons]
    by_cases e : y = x
    · subst e
      rw [hny, hy]
      simp
      omega
    · have hm' : y ∈ r := by
        rcases List.mem_cons.1 hm with h1 | h1
        · exact absurd h1 e
        · exact h1
      have ih := countP_lt hp hy hny hm'
      by_cases h1 : f x = true
      · rw [h1, hp x h1]
        simp
        exact ih
      · rw [show f x = false by simpa using h1]
        simp
        omega
/-- Is a key between a place and an operation's own? -/
def PS.mid (S : PS) (i a : Nat) (j : Nat) : Bool := (decide (a = 0) || kl (S.key (a - 1)) (S.key j)) && kl (S.key j) (S.key i)
def PS.rk (S : PS) (i a : Nat) : Nat := (List.range S.ops.length).countP (S.mid i a)
def PS.left (S : PS) (i : Nat) : Nat :=
  if (S.op i).ph = 0 then S.rk i (S.op i).pos + (S.op i).level + 2 + ((S.op i).height - 1) * (S.ops.length + 1)
  else if (S.op i).ph = 1 then (if S.nx i = (S.op i).seen then 1 else S.rk i (S.op i).pos + 3) + ((S.op i).height - 1 - (S.op i).level) * (S.ops.length + 1)
  else if (S.op i).ph = 2 then S.rk i (S.op i).pos + 2 + ((S.op i).height - 1 - (S.op i).level) * (S.ops.length + 1)
  else 0
section
variable {S : PS} {i : Nat}
theorem PS.rk_lt (S : PS) (hi : i < S.ops.length) (a : Nat) : S.rk i a < S.ops.length := by
  have h := countP_lt (f := S.mid i a) (h := fun _ => true) (fun _ _ => rfl) (y := i) rfl (by simp [PS.mid, kl_irr]) (List.mem_range.2 hi)
  simpa [PS.rk] using h
theorem PS.Inv.left_le (h : S.Inv) (hi : i < S.ops.length) : S.left i ≤ (S.op i).height * (S.ops.length + 16) + 16 := by
  have hr := S.rk_lt hi (S.op i).pos
  have ok := h.ok i hi
  have hh := ok.high
  have e : (S.op i).height * (S.ops.length + 16) = ((S.op i).height - 1) * (S.ops.length + 16) + (S.ops.length + 16) := by
    obtain ⟨k, hk⟩ : ∃ k, (S.op i).height = k + 1 := ⟨(S.op i).height - 1, by omega⟩
    rw [hk, Nat.add_sub_cancel, Nat.succ_mul]
  have m1 : ((S.op i).height - 1) * (S.ops.length + 1) ≤ ((S.op i).height - 1) * (S.ops.length + 16) := Nat.mul_le_mul_left _ (by omega)
  have m2 : ((S.op i).height - 1 - (S.op i).level) * (S.ops.length + 1) ≤ ((S.op i).height - 1) * (S.ops.length + 1) := Nat.mul_le_mul_right _ (by omega)
  unfold PS.left
  split
  · have := (ok.low (by omega)).1
    omega
  · split
    · split <;> omega
    · split <;> omega
theorem PS.put_rk {o : PO} {lev : Nat → List Nat} (hk : o.key = S.key i) (a : Nat) : (S.put i o lev).rk i a = S.rk i a := by
  unfold PS.rk PS.mid
  rw [PS.put_len]
  simp only [PS.put_key hk]
theorem PS.Inv.rk_went (h : S.Inv) (hi : i < S.ops.length) (h3 : (S.op i).ph ≠ 3) {j : Nat} (hj : S.nx i = some j) (hk : kl (S.key j) (S.key i) = true) : S.rk i (j + 1) < S.rk i (S.op i).pos := by
  have ok := h.ok i hi
  have h8 := (ok.low h3).1
  have hjm := nxt_mem hj
  have hpre : (S.op i).pos = 0 ∨ kl (S.key ((S.op i).pos - 1)) (S.key j) = true := by
    rcases ok.pos h3 with e | ⟨x, e, hx, _⟩
    · exact .inl e
    · right
      rw [e, Nat.add_sub_cancel]
      obtain ⟨k, hk', e2⟩ := List.getElem_of_mem hx
      have hn := nxt_at (h.nodup h8) k hk'
      unfold PS.nx at hj
      rw [e, ← e2] at hj
      rw [hn] at hj
      obtain ⟨h5, h6⟩ := List.getElem?_eq_some_iff.1 hj
      have hs := List.pairwise_iff_getElem.1 (h.sorted _ h8) k (k + 1) hk' h5 (by omega)
      rw [h6, e2] at hs
      exact hs
  refine countP_lt (fun x hx => ?_) (y := j) ?_ ?_ (List.mem_range.2 (h.lt h8 hjm))
  · simp only [PS.mid, Nat.add_one_ne_zero, decide_false, Bool.false_or, Nat.add_sub_cancel, Bool.and_eq_true, Bool.or_eq_true, decide_eq_true_eq] at hx ⊢
    refine ⟨?_, hx.2⟩
    rcases hpre with e | e
    · exact .inl e
    · exact .inr (kl_trans e hx.1)
  · simp only [PS.mid, Bool.and_eq_true, Bool.or_eq_true, decide_eq_true_eq]
    exact ⟨hpre, hk⟩
  · simp [PS.mid, kl_irr]
theorem PS.Inv.left_step (h : S.Inv) (hi : i < S.ops.length) (h3 : (S.op i).ph ≠ 3) : (S.step i).left i < S.left i := by
  have ok := h.ok i hi
  have hlow := ok.low h3
  unfold PS.step
  by_cases h0 : (S.op i).ph = 0
  · rw [if_pos h0]
    by_cases hg : S.goes i = true
    · rw [if_pos hg]
      obtain ⟨j, hj, hk⟩ := PS.goes_some hg
      have hr := h.rk_went hi h3 hj hk
      unfold PS.left
      rw [PS.put_op hi, PS.put_len, if_pos (by exact h0), if_pos h0, PS.put_rk (show (S.went i).key = S.key i from rfl)]
      simp only [PS.went, hj]
      omega
    · rw [if_neg hg]
      by_cases hl : (S.op i).level = 0
      · rw [if_pos hl]
        unfold PS.left
        have e : (S.put i (S.low i) S.lev).nx i = S.nx i := by unfold PS.nx; rw [PS.put_op hi]; rfl
        rw [PS.put_op hi, PS.put_len, if_neg (by simp [PS.low]), if_pos (by simp [PS.low]), if_pos h0, e, if_pos (by simp [PS.low])]
        simp only [PS.low, hl, Nat.sub_zero]
        omega
      · rw [if_neg hl]
        unfold PS.left
        rw [PS.put_op hi, PS.put_len, if_pos (by exact h0), if_pos h0, PS.put_rk (show (S.down i).key = S.key i from rfl)]
        simp only [PS.down]
        omega
  · rw [if_neg h0]
    by_cases h1 : (S.op i).ph = 1
    · rw [if_pos h1]
      have hlh := hlow.2 (by omega)
      by_cases hn : S.nx i = (S.op i).seen
      · rw [if_pos hn]
        by_cases hl : (S.op i).level + 1 = (S.op i).height
        · rw [if_pos hl]
          unfold PS.left
          rw [PS.put_op hi, if_neg (by simp [PS.ended]), if_neg (by simp [PS.ended]), if_neg (by simp [PS.ended]), if_neg h0, if_pos h1, if_pos hn]
          omega
        · rw [if_neg hl]
          have hr := S.rk_lt hi ((S.op i).ahead ((S.op i).level + 1))
          unfold PS.left
          rw [PS.put_op hi, PS.put_len, if_neg (by simp [PS.climbs]), if_neg (by simp [PS.climbs]), if_pos (by simp [PS.climbs]), if_neg h0, if_pos h1, if_pos hn, PS.put_rk (show (S.climbs i).key = S.key i from rfl)]
          simp only [PS.climbs]
          have e : (S.op i).height - 1 - (S.op i).level = ((S.op i).height - 1 - ((S.op i).level + 1)) + 1 := by omega
          rw [e, Nat.succ_mul]
          omega
      · rw [if_neg hn]
        unfold PS.left
        rw [PS.put_op hi, PS.put_len, if_neg (by simp [PS.missed]), if_neg (by simp [PS.missed]), if_pos (by simp [PS.missed]), if_neg h0, if_pos h1, if_neg hn, PS.put_rk (show (S.missed i).key = S.key i from rfl)]
        simp only [PS.missed]
        omega
    · have h2 : (S.op i).ph = 2 := by have := ok.ph; omega
      rw [if_neg h1, if_pos h2]
      by_cases hg : S.goes i = true
      · rw [if_pos hg]
        obtain ⟨j, hj, hk⟩ := PS.goes_some hg
        have hr := h.rk_went hi h3 hj hk
        unfold PS.left
        rw [PS.put_op hi, PS.put_len, if_neg (by exact h0), if_neg (by exact h1), if_pos (by exact h2), if_neg h0, if_neg h1, if_pos h2, PS.put_rk (show (S.went i).key = S.key i from rfl)]
        simp only [PS.went, hj]
        omega
      · rw [if_neg hg]
        unfold PS.left
        have e : (S.put i (S.saw i) S.lev).nx i = S.nx i := by unfold PS.nx; rw [PS.put_op hi]; rfl
        rw [PS.put_op hi, PS.put_len, if_neg (by simp [PS.saw]), if_pos (by simp [PS.saw]), if_neg h0, if_neg h1, if_pos h2, e, if_pos (by simp [PS.saw])]
        simp only [PS.saw]
        omega
def PS.hs (S : PS) : List Nat := S.ops.map PO.height
/-- What a step, and many, leave. -/
structure Goes (S S' : PS) : Prop where
  room : S'.room = S.room
  len : S'.ops.length = S.ops.length
  keys : S'.keys = S.keys
  hs : S'.hs = S.hs
  done : ∀ j, S.done j = true → S'.done j = true
theorem Goes.refl (S : PS) : Goes S S := ⟨rfl, rfl, rfl, rfl, fun _ h => h⟩
theorem Goes.trans {A B C : PS} (h : Goes A B) (k : Goes B C) : Goes A C := ⟨k.room.trans h.room, k.len.trans h.len, k.keys.trans h.keys, k.hs.trans h.hs, fun j hj => k.done j (h.done j hj)⟩
theorem PS.put_hs {o : PO} {lev : Nat → List Nat} (hh : o.height = (S.op i).height) : (S.put i o lev).hs = S.hs := by
  unfold PS.hs PS.put
  simp only
  refine List.ext_getElem (by simp) fun k h1 h2 => ?_
  simp only [List.getElem_map, List.getElem_set]
  split
  · rename_i e
    subst e
    simp at h2
    rw [hh]
    simp [PS.op, List.getD, h2]
  · rfl
theorem Goes.put {o : PO} {lev : Nat → List Nat} (hi : i < S.ops.length) (hk : o.key = S.key i) (hh : o.height = (S.op i).height) (h3 : (S.op i).ph ≠ 3) : Goes S (S.put i o lev) :=
  ⟨rfl, PS.put_len, PS.put_keys hk, PS.put_hs hh, fun j hj => by
    by_cases e : j = i
    · subst e
      simp [PS.done] at hj
      exact absurd hj h3
    · unfold PS.done
      rw [PS.put_other e]
      exact hj⟩
theorem goes_step (hi : i < S.ops.length) : Goes S (S.step i) := by
  by_cases h3 : (S.op i).ph = 3
  · have e : S.step i = S := by unfold PS.step; rw [if_neg (by omega), if_neg (by omega), if_neg (by omega)]
    rw [e]
    exact Goes.refl S
  · unfold PS.step
    repeat' split
    all_goals first | exact Goes.put hi rfl rfl h3 | exact Goes.refl S
end
end Go.Proofs.YtnggajconglfcaaDoor
