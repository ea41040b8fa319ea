/- What every board keeps, instruction by instruction. -/
import Derived.Test.YtehkcgjiimfdjaaAct0
namespace Go.Proofs.Ytehkcgjiimfdjaa
open Go.RowKit
theorem PTask.Ok.goTo {t : PTask} (h : t.Ok) (hp : t.ph = 0) {n : Nat} (hn : n ≤ t.code.length) : (t.goTo n).Ok := by
  have hc := h.code
  simp only [codeOk, Bool.and_eq_true, decide_eq_true_eq] at hc
  unfold PTask.goTo
  by_cases e : n = t.code.length
  · rw [if_pos e]
    exact ⟨h.code, h.regs, by simp, fun h3 => absurd h3 (by simp), fun h3 => by simp at h3, by simp only; omega⟩
  · rw [if_neg e]
    exact ⟨h.code, h.regs, h.ph, fun _ => by simp only; omega, fun h3 => by simp only at h3; omega, by simp only; omega⟩
theorem PTask.Ok.reg {t : PTask} (h : t.Ok) (k : Nat) (v : Int) : (t.reg k v).Ok := ⟨h.code, by rw [reg_len]; exact h.regs, h.ph, h.place, h.waits, h.max⟩
theorem PB.Ok.next {B : PB} (h : B.Ok) {i : Nat} (hi : i < B.ts.length) {n : Nat} (hn : n ≤ (B.t i).code.length) : (B.next i n).Ok := by
  unfold PB.next
  split
  · rename_i e
    exact h.setTask hi ((h.tasks i hi).goTo e hn)
  · exact h
theorem PB.Ok.put {B : PB} (h : B.Ok) (k v : Int) : (B.put k v).Ok := ⟨by simp [PB.put, h.cells], h.own, h.many, h.tasks, h.owns⟩
theorem PB.Ok.has {B : PB} (h : B.Ok) (m : Int) {o : Option Nat} (ho : ∀ k, o = some k → k < B.ts.length) : (B.has m o).Ok := by
  refine ⟨h.cells, by simp [PB.has, h.own], h.many, h.tasks, fun j k hj => ?_⟩
  show k < B.ts.length
  have hj' : (B.own.set m.toNat o).getD j none = some k := hj
  by_cases e : m.toNat = j
  · by_cases hl : j < B.own.length
    · subst e
      simp [List.getD, hl] at hj'
      exact ho k hj'
    · simp [List.getD, hl] at hj'
  · have : (B.own.set m.toNat o).getD j none = B.own.getD j none := by simp [List.getD, e]
    rw [this] at hj'
    exact h.owns j k hj'
theorem PB.Ok.release {B : PB} (h : B.Ok) {i : Nat} (hi : i < B.ts.length) (m : Int) {ph : Nat} (hp : (B.t i).ph < 3) (hl : ph = 0 ∨ ph ≤ 2 ∧ (B.t i).ins.op = 10) : (B.release i m ph).Ok := by
  unfold PB.release
  split
  · exact (h.has m (o := none) (fun k e => by cases e)).atPh (i := i) hi hp (by
      show ph = 0 ∨ 3 ≤ ph ∧ ph ≤ 4 ∨ ph ≤ 2 ∧ (B.t i).ins.op = 10
      omega)
  · exact h.atPh hi hp (by omega)
theorem tellL_ok (c : Int) (all : Bool) : ∀ l : List PTask, (∀ t ∈ l, t.Ok) → ∀ t ∈ tellL c all l, t.Ok
  | [], h => h
  | t :: r, h => by
    have h1 := h t (List.mem_cons_self ..)
    have h2 : ∀ u ∈ r, u.Ok := fun u hu => h u (List.mem_cons_of_mem _ hu)
    unfold tellL
    split
    · rename_i e
      intro u hu
      rcases List.mem_cons.1 hu with rfl | hu
      · exact h1.atPh (by omega) (.inr (.inr ⟨Nat.le_refl _, h1.waits (.inl e.1)⟩))
      · cases all
        · exact h2 u hu
        · exact tellL_ok c true r h2 u hu
    · intro u hu
      rcases List.mem_cons.1 hu with rfl | hu
      · exact h1
      · exact tellL_ok c all r h2 u hu
theorem okAll {l : List PTask} : (∀ t ∈ l, t.Ok) ↔ ∀ i, i < l.length → (l.getD i task0).Ok := by
  constructor
  · intro h i hi
    apply h
    simp [List.getD, hi]
  · intro h t ht
    obtain ⟨j, hj, e⟩ := List.getElem_of_mem ht
    have := h j hj
    simp only [List.getD, List.getElem?_eq_getElem hj, Option.getD_some, e] at this
    exact this
theorem PB.Ok.told {B : PB} (h : B.Ok) (c : Int) (all : Bool) : ({ B with ts := tellL c all B.ts } : PB).Ok :=
  ⟨h.cells, h.own, by rw [tellL_length]; exact h.many, fun i hi => okAll.1 (tellL_ok c all B.ts (okAll.2 h.tasks)) i hi, fun m k hm => by rw [tellL_length]; exact h.owns m k hm⟩
theorem next_len (B : PB) (i n : Nat) : (B.next i n).ts.length = B.ts.length := by
  unfold PB.next
  split
  · exact setT_len _ _ _
  · rfl
theorem ins_jump {x : Ins} {n : Nat} (h : insOk x n = true) (e : x.op = 6 ∨ x.op = 7) : 0 ≤ x.b ∧ x.b ≤ (n : Int) := by
  rcases e with e | e
  · have : isReg x.a = true ∧ (0 ≤ x.b ∧ x.b ≤ (n : Int)) := by simpa [insOk, e] using h
    exact this.2
  · simpa [insOk, e] using h
theorem act_eq (B : PB) (i : Nat) : B.act i =
  if (B.t i).ins.op = 1 then (B.setT i ((B.t i).reg (B.t i).ins.a.toNat (B.get (B.t i).ins.b))).next i ((B.t i).place + 1)
  else if (B.t i).ins.op = 2 then (B.put (B.t i).ins.a ((B.t i).get (B.t i).ins.b)).next i ((B.t i).place + 1)
  else if (B.t i).ins.op = 3 then (B.swap i (B.t i).ins).next i ((B.t i).place + 1)
  else if (B.t i).ins.op = 4 then (B.setT i ((B.t i).reg (B.t i).ins.a.toNat (B.t i).ins.b)).next i ((B.t i).place + 1)
  else if (B.t i).ins.op = 5 then (B.setT i ((B.t i).reg (B.t i).ins.a.toNat (wrap64 ((B.t i).get (B.t i).ins.a + (B.t i).ins.b)))).next i ((B.t i).place + 1)
  else if (B.t i).ins.op = 6 then B.next i (if (B.t i).get (B.t i).ins.a = 0 then (B.t i).ins.b.toNat else (B.t i).place + 1)
  else if (B.t i).ins.op = 7 then B.next i (B.t i).ins.b.toNat
  else if (B.t i).ins.op = 8 then (B.has (B.t i).ins.a (some i)).next i ((B.t i).place + 1)
  else if (B.t i).ins.op = 9 then (B.release i (B.t i).ins.a 0).next i ((B.t i).place + 1)
  else if (B.t i).ins.op = 10 then (if (B.t i).ph = 0 then B.release i (B.t i).ins.b 1 else ((B.setT i ((B.t i).at 0)).has (B.t i).ins.b (some i)).next i ((B.t i).place + 1))
  else if (B.t i).ins.op = 11 then ({ B with ts := tellL (B.t i).ins.a false B.ts }).next i ((B.t i).place + 1)
  else if (B.t i).ins.op = 12 then ({ B with ts := tellL (B.t i).ins.a true B.ts }).next i ((B.t i).place + 1)
  else if (B.t i).ins.op = 13 then ({ B with em := B.em ++ [(i, (B.t i).get (B.t i).ins.a)] }).next i ((B.t i).place + 1)
  else B.setT i ((B.t i).at 3) := rfl
/-- What an instruction leaves is a board; as many tasks; at most one more told. -/
theorem act_ok {B : PB} (h : B.Ok) {i : Nat} (hi : i < B.ts.length) (hgo : (B.t i).ph = 0 ∨ (B.t i).ph = 2) : (B.act i).Ok ∧ (B.act i).ts.length = B.ts.length ∧ (B.act i).steps = B.steps ∧ ∃ e, (B.act i).em = B.em ++ e ∧ e.length ≤ 1 := by
  have hT := h.tasks i hi
  have hpl := hT.place (by omega)
  have hins := hT.insOk hpl
  have h1 : (B.t i).place + 1 ≤ (B.t i).code.length := hpl
  have nm : ∀ (C : PB) (n : Nat), (C.next i n).em = C.em ∧ (C.next i n).steps = C.steps := fun C n => by
    unfold PB.next
    split <;> exact ⟨rfl, rfl⟩
  have key : ∀ (C : PB) (n : Nat), C.Ok → C.ts.length = B.ts.length → (C.t i).code = (B.t i).code → C.steps = B.steps → (∃ e, C.em = B.em ++ e ∧ e.length ≤ 1) → n ≤ (B.t i).code.length → (C.next i n).Ok ∧ (C.next i n).ts.length = B.ts.length ∧ (C.next i n).steps = B.steps ∧ ∃ e, (C.next i n).em = B.em ++ e ∧ e.length ≤ 1 := by
    intro C n hC hl hc hs he hn
    refine ⟨hC.next (by rw [hl]; exact hi) (by rw [hc]; exact hn), by rw [next_len, hl], by rw [(nm C n).2, hs], ?_⟩
    rw [(nm C n).1]
    exact he
  have em0 : ∃ e, B.em = B.em ++ e ∧ e.length ≤ 1 := ⟨[], by simp, by simp⟩
  have setk : ∀ t : PTask, t.Ok → t.code = (B.t i).code → ∀ n, n ≤ (B.t i).code.length → ((B.setT i t).next i n).Ok ∧ ((B.setT i t).next i n).ts.length = B.ts.length ∧ ((B.setT i t).next i n).steps = B.steps ∧ ∃ e, ((B.setT i t).next i n).em = B.em ++ e ∧ e.length ≤ 1 :=
    fun t ht hc n hn => key _ n (h.setTask hi ht) (setT_len _ _ _) (by rw [setT_t hi]; exact hc) rfl em0 hn
  obtain ⟨A, hA⟩ : ∃ A, B.act i = A := ⟨_, rfl⟩
  rw [hA]
  rw [act_eq] at hA
  by_cases e1 : (B.t i).ins.op = 1
  · rw [if_pos e1] at hA
    subst hA
    exact setk _ (hT.reg _ _) rfl _ h1
  rw [if_neg e1] at hA
  by_cases e2 : (B.t i).ins.op = 2
  · rw [if_pos e2] at hA
    subst hA
    exact key _ _ (h.put _ _) rfl rfl rfl em0 h1
  rw [if_neg e2] at hA
  by_cases e3 : (B.t i).ins.op = 3
  · rw [if_pos e3] at hA
    subst hA
    obtain ⟨f1, f2, f3⟩ := swap_facts hi (B.t i).ins
    refine key _ _ ?_ f1 ?_ ?_ ?_ h1
    · unfold PB.swap
      split
      · exact (h.put _ _).setTask hi ((hT).reg _ _)
      · exact h.setTask hi (hT.reg _ _)
    · unfold PB.swap
      split
      · rw [setT_t (B := B.put _ _) hi]
        rfl
      · rw [setT_t hi]
        rfl
    · unfold PB.swap
      split <;> rfl
    · unfold PB.swap
      split <;> exact em0
  rw [if_neg e3] at hA
  by_cases e4 : (B.t i).ins.op = 4
  · rw [if_pos e4] at hA
    subst hA
    exact setk _ (hT.reg _ _) rfl _ h1
  rw [if_neg e4] at hA
  by_cases e5 : (B.t i).ins.op = 5
  · rw [if_pos e5] at hA
    subst hA
    exact setk _ (hT.reg _ _) rfl _ h1
  rw [if_neg e5] at hA
  by_cases e6 : (B.t i).ins.op = 6
  · rw [if_pos e6] at hA
    subst hA
    have := ins_jump hins (.inl e6)
    refine key _ _ h rfl rfl rfl em0 ?_
    split <;> omega
  rw [if_neg e6] at hA
  by_cases e7 : (B.t i).ins.op = 7
  · rw [if_pos e7] at hA
    subst hA
    have := ins_jump hins (.inr e7)
    exact key _ _ h rfl rfl rfl em0 (by omega)
  rw [if_neg e7] at hA
  by_cases e8 : (B.t i).ins.op = 8
  · rw [if_pos e8] at hA
    subst hA
    exact key _ _ (h.has _ (fun k e => by cases e; exact hi)) rfl rfl rfl em0 h1
  rw [if_neg e8] at hA
  by_cases e9 : (B.t i).ins.op = 9
  · rw [if_pos e9] at hA
    subst hA
    have hp : (B.t i).ph < 3 := by omega
    refine key _ _ (h.release hi _ hp (.inl rfl)) (release_facts hi _ 0).1 ?_ ?_ ?_ h1
    · unfold PB.release
      split
      · rw [setT_t (B := B.has _ _) hi]
        rfl
      · rw [setT_t hi]
        rfl
    · unfold PB.release
      split <;> rfl
    · unfold PB.release
      split <;> exact em0
  rw [if_neg e9] at hA
  by_cases e10 : (B.t i).ins.op = 10
  · rw [if_pos e10] at hA
    subst hA
    split
    · refine ⟨h.release hi _ (by omega) (.inr ⟨by omega, e10⟩), (release_facts hi _ 1).1, ?_, ?_⟩
      · unfold PB.release
        split <;> rfl
      · unfold PB.release
        split <;> exact em0
    · refine key _ _ ?_ ?_ ?_ rfl em0 h1
      · exact (h.atPh hi (by omega) (.inl rfl)).has _ (fun k e => by cases e; rw [setT_len]; exact hi)
      · show (B.setT i _).ts.length = _
        rw [setT_len]
      · show ((B.setT i _).t i).code = _
        rw [setT_t hi]
        rfl
  rw [if_neg e10] at hA
  by_cases e11 : (B.t i).ins.op = 11
  · rw [if_pos e11] at hA
    subst hA
    refine key _ _ (h.told _ _) (tellL_length _ _ _) ?_ rfl em0 h1
    have : ({ B with ts := tellL (B.t i).ins.a false B.ts } : PB).t i = B.t i := tellL_at _ _ _ _ (by show (B.t i).ph ≠ 1; omega)
    rw [this]
  rw [if_neg e11] at hA
  by_cases e12 : (B.t i).ins.op = 12
  · rw [if_pos e12] at hA
    subst hA
    refine key _ _ (h.told _ _) (tellL_length _ _ _) ?_ rfl em0 h1
    have : ({ B with ts := tellL (B.t i).ins.a true B.ts } : PB).t i = B.t i := tellL_at _ _ _ _ (by show (B.t i).ph ≠ 1; omega)
    rw [this]
  rw [if_neg e12] at hA
  by_cases e13 : (B.t i).ins.op = 13
  · rw [if_pos e13] at hA
    subst hA
    exact key _ _ ⟨h.cells, h.own, h.many, h.tasks, h.owns⟩ rfl rfl rfl ⟨_, rfl, by simp⟩ h1
  · rw [if_neg e13] at hA
    subst hA
    exact ⟨h.atPh hi (by omega) (.inr (.inl ⟨by omega, by omega⟩)), setT_len _ _ _, rfl, em0⟩
end Go.Proofs.Ytehkcgjiimfdjaa
