/- Tasks that count by comparing and swapping, plainly: however they take turns, and then one behind the other, no count is lost. -/
import Derived.Test.YtehkcgjiimfdjaaLkPlain
namespace Go.Proofs.Ytehkcgjiimfdjaa
open Go.RowKit
structure Sq where
  p : Nat
  x : Nat
  y : Nat
  f : Nat
def sq0 : Sq := ⟨0, 0, 0, 0⟩
def swC : List Ins := [⟨1, 0, 0, 0⟩, ⟨1, 1, 0, 0⟩, ⟨5, 1, 1, 0⟩, ⟨3, 0, 0, 1⟩, ⟨6, 3, 0, 0⟩, ⟨13, 1, 0, 0⟩]
def swT (q : Sq) : PTask := ⟨swC, q.p, [(q.x : Int), (q.y : Int), 0, (q.f : Int)], if q.p = 6 then 3 else 0⟩
def Sq.has (q : Sq) : Bool := (decide (q.p = 4) && decide (q.f = 1)) || decide (q.p = 5) || decide (q.p = 6)
def swN (P : List Sq) : Nat := (P.map fun q => if q.has then 1 else 0).sum
def swY (P : List Sq) : Nat := (P.map fun q => if q.has then q.y else 0).sum
def swE (P : List Sq) : Nat := (P.map fun q => if q.p = 6 then 1 else 0).sum
def swZ (P : List Sq) : Nat := (P.map fun q => if q.p = 6 then q.y else 0).sum
def swB (P : List Sq) (c : Nat) (em : List (Nat × Int)) (st : Nat) : PB := ⟨(c : Int) :: List.replicate 15 0, List.replicate 16 none, P.map swT, em, st⟩
def Sq.Ok (c : Nat) (q : Sq) : Prop := q.p ≤ 6 ∧ q.f ≤ 1 ∧ (q.p = 1 → q.x ≤ c) ∧ (q.p = 2 → q.x ≤ q.y ∧ q.y ≤ c) ∧ (q.p = 3 → q.x < q.y ∧ q.y ≤ c + 1)
structure Sw (P : List Sq) (c : Nat) (em : List (Nat × Int)) : Prop where
  ok : ∀ k, k < P.length → (P.getD k sq0).Ok c
  num : swN P = c
  sum : 2 * swY P = c * (c + 1)
  len : em.length = swE P
  val : (em.map fun e => e.2).sum = (swZ P : Int)
  pos : ∀ e ∈ em, 0 ≤ e.2
theorem Sq.Ok.up {c : Nat} {q : Sq} (h : q.Ok c) : q.Ok (c + 1) := by
  obtain ⟨h1, h2, h3, h4, h5⟩ := h
  exact ⟨h1, h2, fun e => by have := h3 e; omega, fun e => by have := h4 e; omega, fun e => by have := h5 e; omega⟩
theorem sw_next {P : List Sq} {cs : List Int} {ow : List (Option Nat)} {em : List (Nat × Int)} {i st n : Nat} (hi : i < P.length) {t : PTask} (hph : t.ph = 0) : (⟨cs, ow, (P.map swT).set i t, em, st⟩ : PB).next i n = ⟨cs, ow, (P.map swT).set i (t.goTo n), em, st⟩ := by
  have e : (⟨cs, ow, (P.map swT).set i t, em, st⟩ : PB).t i = t := getD_set_same _ _ _ (by simpa using hi)
  unfold PB.next
  rw [e, if_pos hph, PB.setT]
  simp
theorem sw_next0 {P : List Sq} {cs : List Int} {ow : List (Option Nat)} {em : List (Nat × Int)} {i st n : Nat} (hi : i < P.length) {t : PTask} (ht : swT (P.getD i sq0) = t) (hph : t.ph = 0) : (⟨cs, ow, P.map swT, em, st⟩ : PB).next i n = ⟨cs, ow, (P.map swT).set i (t.goTo n), em, st⟩ := by
  have e : (⟨cs, ow, P.map swT, em, st⟩ : PB).t i = t := (getD_map swT P sq0 task0 hi).trans ht
  unfold PB.next
  rw [e, if_pos hph, PB.setT]
theorem sw_fold {P : List Sq} {em : List (Nat × Int)} {i st c : Nat} {q : Sq} {t : PTask} {c' : Int} (ht : t = swT q) (hc : c' = (c : Int)) : (⟨c' :: List.replicate 15 0, List.replicate 16 none, (P.map swT).set i t, em, st⟩ : PB) = swB (P.set i q) c em st := by
  rw [ht, hc, swB, List.map_set]
def rem (c : Nat) (q : Sq) : Nat :=
  if q.p = 0 then 6 else if q.p = 1 then (if q.x = c then 5 else 10) else if q.p = 2 then (if q.x = c then 4 else 9) else if q.p = 3 then (if q.x = c then 3 else 8) else if q.p = 4 then (if q.f = 1 then 2 else 7) else if q.p = 5 then 1 else 0
theorem sw_keep {P : List Sq} {c c' : Nat} {em em' : List (Nat × Int)} (h : Sw P c em) {i : Nat} (hi : i < P.length) {q' : Sq} (hok : q'.Ok c') (hc : c' = c ∨ c' = c + 1)
    (hN : c' + (if (P.getD i sq0).has then 1 else 0) = c + (if q'.has then 1 else 0)) (hY : 2 * swY P + 2 * (if q'.has then q'.y else 0) = c' * (c' + 1) + 2 * (if (P.getD i sq0).has then (P.getD i sq0).y else 0))
    (hE : em'.length + (if (P.getD i sq0).p = 6 then 1 else 0) = em.length + (if q'.p = 6 then 1 else 0)) (hZ : (em'.map fun e => e.2).sum + ((if (P.getD i sq0).p = 6 then (P.getD i sq0).y else 0 : Nat) : Int) = (em.map fun e => e.2).sum + ((if q'.p = 6 then q'.y else 0 : Nat) : Int)) (hP : ∀ e ∈ em', 0 ≤ e.2) : Sw (P.set i q') c' em' := by
  have s1 := sum_set (fun q : Sq => if q.has then 1 else 0) sq0 q' P i hi
  have s2 := sum_set (fun q : Sq => if q.has then q.y else 0) sq0 q' P i hi
  have s3 := sum_set (fun q : Sq => if q.p = 6 then 1 else 0) sq0 q' P i hi
  have s4 := sum_set (fun q : Sq => if q.p = 6 then q.y else 0) sq0 q' P i hi
  have n1 : ((P.map fun q : Sq => if q.has then 1 else 0).sum : Nat) = c := h.num
  have n2 : (P.map fun q : Sq => if q.has then q.y else 0).sum = swY P := rfl
  have n3 : (P.map fun q : Sq => if q.p = 6 then 1 else 0).sum = em.length := h.len.symm
  have n4 : (em.map fun e => e.2).sum = (((P.map fun q : Sq => if q.p = 6 then q.y else 0).sum : Nat) : Int) := h.val
  refine ⟨fun k hk => ?_, ?_, ?_, ?_, ?_, hP⟩
  · have hk' : k < P.length := by simpa using hk
    by_cases e : i = k
    · subst e
      rw [getD_set_same _ _ _ hi]
      exact hok
    · rw [getD_set_other _ _ _ e]
      rcases hc with rfl | rfl
      · exact h.ok k hk'
      · exact (h.ok k hk').up
  · show (((P.set i q').map fun q : Sq => if q.has then 1 else 0).sum : Nat) = c'
    omega
  · show 2 * ((P.set i q').map fun q : Sq => if q.has then q.y else 0).sum = _
    omega
  · show _ = ((P.set i q').map fun q : Sq => if q.p = 6 then 1 else 0).sum
    omega
  · show _ = (((P.set i q').map fun q : Sq => if q.p = 6 then q.y else 0).sum : Int)
    omega
theorem sw_act {P : List Sq} {c : Nat} {em : List (Nat × Int)} {st : Nat} (hc8 : c ≤ 100) (h : Sw P c em) {i : Nat} (hi : i < P.length) {q : Sq} (hq : P.getD i sq0 = q) (hp : q.p < 6) :
    ∃ q' c' em', (swB P c em st).more.act i = swB (P.set i q') c' em' (st + 1) ∧ Sw (P.set i q') c' em' ∧ rem c' q' + 1 = rem c q ∧ q'.p ≤ 6 := by
  obtain ⟨p, x, y, f⟩ := q
  simp only at hp
  have hok := h.ok i hi
  rw [hq] at hok
  obtain ⟨o1, o2, o3, o4, o5⟩ := hok
  simp only at o1 o2 o3 o4 o5
  have ht : (swB P c em st).more.t i = swT ⟨p, x, y, f⟩ := (getD_map swT P sq0 task0 hi).trans (by rw [hq])
  have hins : ((swB P c em st).more.t i).ins = swC.getD p ins0 := by rw [ht]; rfl
  have hx : swT (P.getD i sq0) = swT ⟨p, x, y, f⟩ := by rw [hq]
  have hph : (swT ⟨p, x, y, f⟩).ph = 0 := by simp [swT]; omega
  have K := fun {c' : Nat} {em' : List (Nat × Int)} {q' : Sq} => sw_keep (c' := c') (em' := em') (q' := q') h hi
  rw [hq] at K
  have hsum := h.sum
  rcases (by omega : p = 0 ∨ p = 1 ∨ p = 2 ∨ p = 3 ∨ p = 4 ∨ p = 5) with rfl | rfl | rfl | rfl | rfl | rfl
  · refine ⟨⟨1, c, y, f⟩, c, em, ?_, K ⟨by simp, by simpa using o2, by simp, by simp, by simp⟩ (.inl rfl) (by simp [Sq.has]) (by simp [Sq.has]; omega) (by simp) (by simp) h.pos, by simp [rem], by simp⟩
    rw [act_1 hins, ht]
    refine (sw_next hi (by exact hph)).trans (sw_fold ?_ rfl)
    simp [swT, PTask.reg, PTask.goTo, swC, PB.get, swB, PB.more]
  · refine ⟨⟨2, x, c, f⟩, c, em, ?_, K ⟨by simp, by simpa using o2, by simp, by simpa using o3, by simp⟩ (.inl rfl) (by simp [Sq.has]) (by simp [Sq.has]; omega) (by simp) (by simp) h.pos, ?_, by simp⟩
    · rw [act_1 hins, ht]
      refine (sw_next hi (by exact hph)).trans (sw_fold ?_ rfl)
      simp [swT, PTask.reg, PTask.goTo, swC, PB.get, swB, PB.more]
    · by_cases e : x = c <;> simp [rem, e]
  · have h4 := o4 rfl
    have hw : wrap64 ((y : Int) + 1) = ((y + 1 : Nat) : Int) := by rw [wrap_in (by omega)]; omega
    refine ⟨⟨3, x, y + 1, f⟩, c, em, ?_, K ⟨by simp, by simpa using o2, by simp, by simp, by simp; omega⟩ (.inl rfl) (by simp [Sq.has]) (by simp [Sq.has]; omega) (by simp) (by simp) h.pos, ?_, by simp⟩
    · rw [act_5 hins, ht]
      refine (sw_next hi (by exact hph)).trans (sw_fold ?_ rfl)
      simp [swT, PTask.reg, PTask.get, PTask.goTo, swC, hw]
    · by_cases e : x = c <;> simp [rem, e]
  · have h5 := o5 rfl
    by_cases e : x = c
    · subst e
      obtain rfl : y = x + 1 := by omega
      refine ⟨⟨4, x, x + 1, 1⟩, x + 1, em, ?_, K ⟨by simp, by simp, by simp, by simp, by simp⟩ (.inr rfl) (by simp [Sq.has]) ?_ (by simp) (by simp) h.pos, by simp [rem], by simp⟩
      · rw [act_3 hins]
        have hsw : (swB P x em st).more.swap i ⟨3, 0, 0, 1⟩ = ⟨((x + 1 : Nat) : Int) :: List.replicate 15 0, List.replicate 16 none, (P.map swT).set i ((swT ⟨3, x, x + 1, f⟩).reg 3 1), em, st + 1⟩ := by
          unfold PB.swap
          rw [ht, if_pos (by simp [PB.get, swB, PB.more, swT, PTask.get])]
          simp [PB.put, PB.setT, swB, PB.more, swT, PTask.get]
        rw [hsw, ht]
        refine (sw_next hi (by exact hph)).trans (sw_fold ?_ rfl)
        simp [swT, PTask.reg, PTask.goTo, swC]
      · have e : (x + 1) * (x + 1 + 1) = x * (x + 1) + 2 * (x + 1) := by rw [Nat.mul_comm x, Nat.mul_comm 2, ← Nat.mul_add]
        simp [Sq.has]
        omega
    · refine ⟨⟨4, x, y, 0⟩, c, em, ?_, K ⟨by simp, by simp, by simp, by simp, by simp⟩ (.inl rfl) (by simp [Sq.has]) (by simp [Sq.has]; omega) (by simp) (by simp) h.pos, by simp [rem, e], by simp⟩
      rw [act_3 hins]
      have hsw : (swB P c em st).more.swap i ⟨3, 0, 0, 1⟩ = ⟨(c : Int) :: List.replicate 15 0, List.replicate 16 none, (P.map swT).set i ((swT ⟨3, x, y, f⟩).reg 3 0), em, st + 1⟩ := by
        unfold PB.swap
        rw [ht, if_neg (by simp [PB.get, swB, PB.more, swT, PTask.get]; omega)]
        simp [PB.setT, swB, PB.more]
      rw [hsw, ht]
      refine (sw_next hi (by exact hph)).trans (sw_fold ?_ rfl)
      simp [swT, PTask.reg, PTask.goTo, swC]
  · rcases (by omega : f = 0 ∨ f = 1) with rfl | rfl
    · refine ⟨⟨0, x, y, 0⟩, c, em, ?_, K ⟨by simp, by simp, by simp, by simp, by simp⟩ (.inl rfl) (by simp [Sq.has]) (by simp [Sq.has]; omega) (by simp) (by simp) h.pos, by simp [rem], by simp⟩
      rw [act_6 hins, ht]
      refine (sw_next0 hi hx (by exact hph)).trans (sw_fold ?_ rfl)
      simp [swT, PTask.get, PTask.goTo, swC]
    · refine ⟨⟨5, x, y, 1⟩, c, em, ?_, K ⟨by simp, by simp, by simp, by simp, by simp⟩ (.inl rfl) (by simp [Sq.has]) (by simp [Sq.has]; omega) (by simp) (by simp) h.pos, by simp [rem], by simp⟩
      rw [act_6 hins, ht]
      refine (sw_next0 hi hx (by exact hph)).trans (sw_fold ?_ rfl)
      simp [swT, PTask.get, PTask.goTo, swC]
  · refine ⟨⟨6, x, y, f⟩, c, em ++ [(i, (y : Int))], ?_, K ⟨by simp, by simpa using o2, by simp, by simp, by simp⟩ (.inl rfl) (by simp [Sq.has]) (by simp [Sq.has]; omega) (by simp) (by simp) (fun e he => (List.mem_append.1 he).elim (h.pos e) (fun he => by rw [List.mem_singleton.1 he]; exact Int.natCast_nonneg y)), by simp [rem], by simp⟩
    rw [act_13 hins, ht]
    refine (sw_next0 hi hx (by exact hph)).trans (sw_fold ?_ rfl)
    simp [swT, PTask.goTo, swC]
theorem sw_can {P : List Sq} {c : Nat} {em : List (Nat × Int)} {st : Nat} {q : Sq} (hp : q.p ≤ 6) : (swB P c em st).canGo (swT q) = decide (q.p ≠ 6) := by
  obtain ⟨p, x, y, f⟩ := q
  simp only at hp ⊢
  rcases (by omega : p = 0 ∨ p = 1 ∨ p = 2 ∨ p = 3 ∨ p = 4 ∨ p = 5 ∨ p = 6) with rfl | rfl | rfl | rfl | rfl | rfl | rfl <;> rfl
theorem able_first {f : PTask → Bool} : ∀ (l : List PTask) (k : Nat), (ableL f l k).length ≠ 0 → ∃ i, (ableL f l k).getD 0 0 = k + i ∧ i < l.length ∧ f (l.getD i task0) = true ∧ ∀ j, j < i → f (l.getD j task0) = false
  | [], _, h => absurd rfl h
  | t :: l, k, h => by
    rw [ableL] at h ⊢
    cases ht : f t with
    | true => exact ⟨0, by simp, by simp, by simpa using ht, fun j hj => absurd hj (Nat.not_lt_zero _)⟩
    | false =>
      rw [ht] at h
      obtain ⟨i, h1, h2, h3, h4⟩ := able_first l (k + 1) (by simpa using h)
      refine ⟨i + 1, ?_, by simp; omega, by simpa [List.getD] using h3, fun j hj => ?_⟩
      · simp only [Bool.false_eq_true, if_false]
        rw [h1]
        omega
      · cases j with
        | zero => simpa [List.getD] using ht
        | succ j => have := h4 j (by omega); simpa [List.getD] using this
def open_ (P : List Sq) : Nat := (P.map fun q => if q.p = 6 then 0 else 1).sum
def meas (c : Nat) : List Sq → Nat
  | [] => 0
  | q :: r => if q.p = 6 then meas c r else rem c q + 10 * open_ r
theorem rem_le (c : Nat) (q : Sq) : rem c q ≤ 10 := by
  unfold rem
  repeat' split
  all_goals omega
theorem meas_open (c : Nat) : ∀ P : List Sq, meas c P ≤ 10 * open_ P
  | [] => by simp [meas]
  | q :: r => by
    have := meas_open c r
    have := rem_le c q
    by_cases e : q.p = 6 <;> simp [meas, open_, e] at * <;> omega
theorem open_le : ∀ P : List Sq, open_ P ≤ P.length
  | [] => by simp [open_]
  | q :: r => by
    have := open_le r
    by_cases e : q.p = 6 <;> simp [open_, e] at * <;> omega
theorem meas_step {c c' : Nat} {q' : Sq} : ∀ (P : List Sq) (i : Nat), i < P.length → (∀ j, j < i → (P.getD j sq0).p = 6) → (P.getD i sq0).p ≠ 6 → rem c' q' + 1 = rem c (P.getD i sq0) → meas c' (P.set i q') + 1 ≤ meas c P
  | [], i, h, _, _, _ => by simp at h
  | q :: r, 0, _, _, h6, hr => by
    have e1 : (q :: r).getD 0 sq0 = q := rfl
    rw [e1] at h6 hr
    have := meas_open c' r
    by_cases e : q'.p = 6 <;> simp [meas, e, h6] <;> omega
  | q :: r, i + 1, h, hj, h6, hr => by
    have h0 : q.p = 6 := hj 0 (by omega)
    have := meas_step (c := c) (c' := c') (q' := q') r i (by simpa using h) (fun j hj' => by have := hj (j + 1) (by omega); simpa [List.getD] using this) (by simpa [List.getD] using h6) (by simpa [List.getD] using hr)
    simpa [meas, h0] using this
theorem meas_zero {c : Nat} : ∀ P : List Sq, (∀ q ∈ P, q.p ≤ 6) → meas c P = 0 → ∀ q ∈ P, q.p = 6
  | [], _, _, q, hq => by cases hq
  | x :: r, hp, h, q, hq => by
    by_cases e : x.p = 6
    · rcases List.mem_cons.1 hq with rfl | hq
      · exact e
      · exact meas_zero r (fun y hy => hp y (List.mem_cons_of_mem _ hy)) (by simpa [meas, e] using h) q hq
    · exfalso
      have hx := hp x (List.mem_cons_self ..)
      rw [meas, if_neg e] at h
      have : rem c x = 0 := by omega
      unfold rem at this
      repeat' split at this
      all_goals omega
theorem Sw.mem {P : List Sq} {c : Nat} {em : List (Nat × Int)} (h : Sw P c em) : ∀ q ∈ P, q.p ≤ 6 := fun q hq => by
  obtain ⟨k, hk, rfl⟩ := List.getElem_of_mem hq
  have := (h.ok k hk).1
  simpa [List.getD, hk] using this
theorem swN_le : ∀ P : List Sq, swN P ≤ P.length
  | [] => by simp [swN]
  | q :: r => by
    have := swN_le r
    cases e : q.has <;> simp [swN, e] at * <;> omega
theorem sw_step {P : List Sq} {c : Nat} {em : List (Nat × Int)} {st : Nat} (hn : P.length ≤ 8) (h : Sw P c em) (n : Int) :
    ((∀ q ∈ P, q.p = 6) ∧ (swB P c em st).step n = swB P c em st) ∨ ∃ P' c' em', (swB P c em st).step n = swB P' c' em' (st + 1) ∧ Sw P' c' em' ∧ P'.length = P.length ∧ (n = 0 → meas c' P' + 1 ≤ meas c P) := by
  have hc8 : c ≤ 100 := by have := swN_le P; have := h.num; omega
  unfold PB.step
  by_cases h0 : (swB P c em st).able.length = 0
  · rw [if_pos h0]
    refine .inl ⟨fun q hq => ?_, rfl⟩
    have hnone := able_none (f := (swB P c em st).canGo) (swB P c em st).ts 0 h0 (swT q) (List.mem_map_of_mem hq)
    rw [sw_can (h.mem q hq)] at hnone
    simpa using hnone
  · rw [if_neg h0]
    have hmem : (swB P c em st).able.getD ((fromZ n).toNat % (swB P c em st).able.length) 0 ∈ (swB P c em st).able := getD_mem _ _ (Nat.mod_lt _ (by omega))
    have hgo : ∀ k, k < P.length → (swB P c em st).canGo ((swB P c em st).ts.getD k task0) = decide ((P.getD k sq0).p ≠ 6) := fun k hk => by
      rw [show (swB P c em st).ts.getD k task0 = swT (P.getD k sq0) from getD_map swT P sq0 task0 hk]
      exact sw_can (h.ok k hk).1
    have hfirst : n = 0 → ∀ j, j < (swB P c em st).able.getD ((fromZ n).toNat % (swB P c em st).able.length) 0 → (P.getD j sq0).p = 6 := fun hn0 j hj => by
      obtain ⟨i, g1, g2, _, g4⟩ := able_first (f := (swB P c em st).canGo) (swB P c em st).ts 0 h0
      have e0 : (fromZ n).toNat % (swB P c em st).able.length = 0 := by rw [hn0]; exact Nat.zero_mod _
      have g1' : (swB P c em st).able.getD 0 0 = 0 + i := g1
      rw [e0, g1', Nat.zero_add] at hj
      have hi2 : i < P.length := by simpa [swB] using g2
      have := g4 j hj
      rw [hgo j (by omega)] at this
      simpa using this
    generalize (swB P c em st).able.getD ((fromZ n).toNat % (swB P c em st).able.length) 0 = i at hmem hfirst
    obtain ⟨_, h2, h3⟩ := ableL_mem (swB P c em st).canGo (swB P c em st).ts 0 i hmem
    have hi : i < P.length := by simpa [swB] using h2
    rw [Nat.sub_zero, hgo i hi] at h3
    have h6 : (P.getD i sq0).p ≠ 6 := by simpa using h3
    have hle := (h.ok i hi).1
    obtain ⟨q', c', em', e1, e2, e3, _⟩ := sw_act (st := st) hc8 h hi rfl (by omega)
    exact .inr ⟨_, c', em', e1, e2, by simp, fun hn0 => meas_step P i hi (hfirst hn0) h6 e3⟩
theorem sw_run {n : Nat} (hn : n ≤ 8) : ∀ (l : List Int) (P : List Sq) (c : Nat) (em : List (Nat × Int)) (st : Nat), P.length = n → Sw P c em → ∃ P' c' em' st', (swB P c em st).run l = swB P' c' em' st' ∧ P'.length = n ∧ Sw P' c' em'
  | [], P, c, em, st, hl, h => ⟨P, c, em, st, rfl, hl, h⟩
  | p :: l, P, c, em, st, hl, h => by
    have er : (swB P c em st).run (p :: l) = ((swB P c em st).step p).run l := rfl
    rw [er]
    rcases sw_step (st := st) (by omega) h p with ⟨_, e⟩ | ⟨P', c', em', e, h2, h3, _⟩ <;> rw [e]
    · exact sw_run hn l P c em st hl h
    · exact sw_run hn l P' c' em' (st + 1) (by omega) h2
theorem sw_zeros {n : Nat} (hn : n ≤ 8) : ∀ (k : Nat) (P : List Sq) (c : Nat) (em : List (Nat × Int)) (st : Nat), P.length = n → Sw P c em → meas c P ≤ k → ∃ P' c' em' st', (swB P c em st).run (List.replicate k 0) = swB P' c' em' st' ∧ P'.length = n ∧ Sw P' c' em' ∧ ∀ q ∈ P', q.p = 6
  | 0, P, c, em, st, hl, h, hm => ⟨P, c, em, st, rfl, hl, h, meas_zero (c := c) P h.mem (by omega)⟩
  | k + 1, P, c, em, st, hl, h, hm => by
    have er : (swB P c em st).run (List.replicate (k + 1) 0) = ((swB P c em st).step 0).run (List.replicate k 0) := rfl
    rw [er]
    rcases sw_step (st := st) (by omega) h 0 with ⟨h1, e⟩ | ⟨P', c', em', e, h2, h3, h4⟩ <;> rw [e]
    · have hz : meas c P = 0 := by
        have : ∀ Q : List Sq, (∀ q ∈ Q, q.p = 6) → meas c Q = 0 := by
          intro Q
          induction Q with
          | nil => intro _; rfl
          | cons q r ih => intro hq; rw [meas, if_pos (hq q (List.mem_cons_self ..))]; exact ih fun y hy => hq y (List.mem_cons_of_mem _ hy)
        exact this P h1
      exact sw_zeros hn k P c em st hl h (by omega)
    · have := h4 rfl
      exact sw_zeros hn k P' c' em' (st + 1) (by omega) h2 (by omega)
theorem sw_begins (n : Nat) : begins (List.replicate n swC) [] = swB (List.replicate n sq0) 0 [] 0 ∧ Sw (List.replicate n sq0) 0 [] := by
  have hf : fresh swC = swT sq0 := rfl
  refine ⟨by simp [begins, swB, hf], ⟨fun k hk => ?_, by simp [swN, sq0, Sq.has], by simp [swY, sq0, Sq.has], by simp [swE, sq0], by simp [swZ, sq0], by simp⟩⟩
  have hk' : k < n := by simpa using hk
  have : (List.replicate n sq0).getD k sq0 = sq0 := by simp [List.getD, hk']
  rw [this]
  exact ⟨by decide, by decide, by decide, by decide, by decide⟩
theorem swN_full : ∀ {P : List Sq}, (∀ q ∈ P, q.p = 6) → swN P = P.length ∧ swE P = P.length ∧ swZ P = swY P
  | [], _ => by simp [swN, swE, swZ, swY]
  | q :: r, h => by
    have h1 := swN_full (P := r) (fun x hx => h x (List.mem_cons_of_mem _ hx))
    have h2 := h q (List.mem_cons_self ..)
    simp [swN, swE, swZ, swY, Sq.has, h2] at h1 ⊢
    omega
/-- What SchedSwaps asks, plainly. -/
theorem sw_all {n k : Nat} (hn : n ≤ 8) (hk : 10 * n ≤ k) (l : List Int) : ∃ B : PB, (begins (List.replicate n swC) []).run (l ++ List.replicate k 0) = B ∧ B.cells = (n : Int) :: List.replicate 15 0 ∧ B.em.length = n ∧ 2 * (B.em.map fun e => e.2).sum = (n : Int) * (n + 1) ∧ B.states = List.replicate n 2 ∧ B.ts.length = n ∧ (∀ e ∈ B.em, 0 ≤ e.2) := by
  obtain ⟨h1, h2⟩ := sw_begins n
  obtain ⟨P1, c1, em1, st1, e1, l1, s1⟩ := sw_run hn l _ 0 [] 0 (by simp) h2
  have hm := meas_open c1 P1
  have hm2 := open_le P1
  obtain ⟨P2, c2, em2, st2, e2, l2, s2, d2⟩ := sw_zeros hn k P1 c1 em1 st1 l1 s1 (by omega)
  obtain ⟨f1, f2, f3⟩ := swN_full d2
  have hc : c2 = n := by have := s2.num; omega
  refine ⟨_, rfl, ?_⟩
  have er : (begins (List.replicate n swC) []).run (l ++ List.replicate k 0) = swB P2 c2 em2 st2 := by
    rw [h1, show (swB (List.replicate n sq0) 0 [] 0).run (l ++ List.replicate k 0) = ((swB (List.replicate n sq0) 0 [] 0).run l).run (List.replicate k 0) from List.foldl_append .., e1, e2]
  rw [er]
  refine ⟨?_, ?_, ?_, ?_, by simpa [swB] using l2, s2.pos⟩
  · show (c2 : Int) :: _ = _
    rw [hc]
  · show em2.length = n
    rw [s2.len]
    omega
  · show 2 * (em2.map fun e => e.2).sum = _
    rw [s2.val, f3]
    have := s2.sum
    rw [hc] at this
    have e : ((2 * swY P2 : Nat) : Int) = ((n * (n + 1) : Nat) : Int) := by rw [this]
    simpa using e
  · rw [List.eq_replicate_iff]
    refine ⟨by simpa [PB.states, swB] using l2, fun b hb => ?_⟩
    simp only [PB.states, swB, List.map_map, List.mem_map] at hb
    obtain ⟨q, hq, rfl⟩ := hb
    have : (swT q).ph = 3 := by simp [swT, d2 q hq]
    simp [PB.state, this]
theorem sw_ok {n : Nat} (hn : n ≤ 8) : allOk (List.replicate n swC) [] = true := by
  have h : codeOk swC = true := by decide
  simp [allOk, h, hn]
end Go.Proofs.Ytehkcgjiimfdjaa
