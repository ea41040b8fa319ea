/- Two counters that share nothing, plainly: however they take turns, each ends with its own count. -/
import Derived.Test.YtehkcgjiimfdjaaPlain5
namespace Go.Proofs.Ytehkcgjiimfdjaa
open Go.RowKit
theorem wrap_in {n : Int} (h : -9223372036854775808 ≤ n ∧ n ≤ 9223372036854775807) : wrap64 n = n := by unfold wrap64; omega
def blkA : List Ins := [⟨1, 0, 1, 0⟩, ⟨5, 0, 1, 0⟩, ⟨2, 1, 0, 0⟩]
def blkB : List Ins := [⟨1, 2, 2, 0⟩, ⟨5, 2, 2, 0⟩, ⟨2, 2, 2, 0⟩]
def reps (l : List Ins) : Nat → List Ins
  | 0 => []
  | n + 1 => reps l n ++ l
theorem reps_len {l : List Ins} (h : l.length = 3) : ∀ n, (reps l n).length = 3 * n
  | 0 => rfl
  | n + 1 => by rw [reps, List.length_append, reps_len h n, h]; omega
theorem reps_get {l : List Ins} (h : l.length = 3) : ∀ n p, p < 3 * n → (reps l n).getD p ins0 = l.getD (p % 3) ins0
  | 0, p, hp => absurd hp (by omega)
  | n + 1, p, hp => by
    have e := reps_len h n
    rw [reps]
    by_cases hlt : p < 3 * n
    · rw [← reps_get h n p hlt]
      simp [List.getD, List.getElem?_append_left (show p < (reps l n).length by omega)]
    · have e2 : p % 3 = p - (reps l n).length := by omega
      rw [e2]
      simp [List.getD, List.getElem?_append_right (show (reps l n).length ≤ p by omega)]
def apA (a p : Nat) : PTask := ⟨reps blkA a, p, [(((p + 1) / 3 : Nat) : Int), 0, 0, 0], if p = 3 * a then 3 else 0⟩
def apC (b q : Nat) : PTask := ⟨reps blkB b, q, [0, 0, ((2 * ((q + 1) / 3) : Nat) : Int), 0], if q = 3 * b then 3 else 0⟩
def apB (a b p q : Nat) : PB := ⟨[0, ((p / 3 : Nat) : Int), ((2 * (q / 3) : Nat) : Int), 0, 0, 0, 0, 0, 0, 0, 0, 0, 0, 0, 0, 0], List.replicate 16 none, [apA a p, apC b q], [], p + q⟩
theorem ap_begins (a b : Nat) : begins [reps blkA a, reps blkB b] [] = apB a b 0 0 := by
  have e1 := reps_len (l := blkA) rfl a
  have e2 := reps_len (l := blkB) rfl b
  simp [begins, fresh, PTask.goTo, apB, apA, apC, e1, e2]
theorem pm {p r : Nat} (h : p % 3 = r) : ∃ k, p = 3 * k + r := ⟨p / 3, by omega⟩
theorem ap_act0 {a b p q : Nat} (hp : p < 3 * a) (ha : a < 20) : (apB a b p q).more.act 0 = apB a b (p + 1) q := by
  have hi : (apA a p).ins = blkA.getD (p % 3) ins0 := by unfold PTask.ins apA; exact reps_get rfl a p hp
  have hl := reps_len (l := blkA) rfl a
  have ht : (apB a b p q).more.t 0 = apA a p := rfl
  have hm : p % 3 = 0 ∨ p % 3 = 1 ∨ p % 3 = 2 := by omega
  simp only [PB.act, ht, hi]
  rcases hm with hm | hm | hm
  · obtain ⟨k, rfl⟩ := pm hm
    rw [hm, show blkA.getD 0 ins0 = ⟨1, 0, 1, 0⟩ from rfl]
    have d1 : (3 * k + 1) / 3 = k := by omega
    have d2 : (3 * k + 1 + 1) / 3 = k := by omega
    have d3 : 3 * k / 3 = k := by omega
    have d4 : (3 * k + 0 + 1) / 3 = k := by omega
    have n1 : ¬ 3 * k = 3 * a := by omega
    simp [List.getD, PB.next, PB.setT, PB.t, PTask.reg, PTask.goTo, PB.get, apB, apA, PB.more, hl, d1, d2, d3, n1]
    omega
  · obtain ⟨k, rfl⟩ := pm hm
    rw [hm, show blkA.getD 1 ins0 = ⟨5, 0, 1, 0⟩ from rfl]
    have d1 : (3 * k + 1) / 3 = k := by omega
    have d2 : (3 * k + 1 + 1) / 3 = k := by omega
    have d3 : (3 * k + 1 + 1 + 1) / 3 = k + 1 := by omega
    have n1 : ¬ 3 * k + 1 = 3 * a := by omega
    have hw : wrap64 ((k : Int) + 1) = (k : Int) + 1 := wrap_in (by omega)
    simp [List.getD, PB.next, PB.setT, PB.t, PTask.reg, PTask.goTo, PTask.get, apB, apA, PB.more, hl, d1, d2, d3, n1, hw]
    omega
  · obtain ⟨k, rfl⟩ := pm hm
    rw [hm, show blkA.getD 2 ins0 = ⟨2, 1, 0, 0⟩ from rfl]
    have d1 : (3 * k + 2) / 3 = k := by omega
    have d2 : (3 * k + 2 + 1) / 3 = k + 1 := by omega
    have d3 : (3 * k + 2 + 1 + 1) / 3 = k + 1 := by omega
    have n1 : ¬ 3 * k + 2 = 3 * a := by omega
    simp [List.getD, PB.next, PB.setT, PB.put, PB.t, PTask.goTo, PTask.get, apB, apA, PB.more, hl, d1, d2, d3, n1]
    omega
theorem ap_act1 {a b p q : Nat} (hq : q < 3 * b) (hb : b < 20) : (apB a b p q).more.act 1 = apB a b p (q + 1) := by
  have hi : (apC b q).ins = blkB.getD (q % 3) ins0 := by unfold PTask.ins apC; exact reps_get rfl b q hq
  have hl := reps_len (l := blkB) rfl b
  have ht : (apB a b p q).more.t 1 = apC b q := rfl
  have hm : q % 3 = 0 ∨ q % 3 = 1 ∨ q % 3 = 2 := by omega
  simp only [PB.act, ht, hi]
  rcases hm with hm | hm | hm
  · obtain ⟨k, rfl⟩ := pm hm
    rw [hm, show blkB.getD 0 ins0 = ⟨1, 2, 2, 0⟩ from rfl]
    have d1 : (3 * k + 1) / 3 = k := by omega
    have d2 : (3 * k + 1 + 1) / 3 = k := by omega
    have d3 : 3 * k / 3 = k := by omega
    have n1 : ¬ 3 * k = 3 * b := by omega
    simp [List.getD, PB.next, PB.setT, PB.t, PTask.reg, PTask.goTo, PB.get, apB, apC, PB.more, hl, d1, d2, d3, n1]
    omega
  · obtain ⟨k, rfl⟩ := pm hm
    rw [hm, show blkB.getD 1 ins0 = ⟨5, 2, 2, 0⟩ from rfl]
    have d1 : (3 * k + 1) / 3 = k := by omega
    have d2 : (3 * k + 1 + 1) / 3 = k := by omega
    have d3 : (3 * k + 1 + 1 + 1) / 3 = k + 1 := by omega
    have n1 : ¬ 3 * k + 1 = 3 * b := by omega
    have hw : wrap64 (2 * (k : Int) + 2) = 2 * (k : Int) + 2 := wrap_in (by omega)
    simp [List.getD, PB.next, PB.setT, PB.t, PTask.reg, PTask.goTo, PTask.get, apB, apC, PB.more, hl, d1, d2, d3, n1, hw]
    omega
  · obtain ⟨k, rfl⟩ := pm hm
    rw [hm, show blkB.getD 2 ins0 = ⟨2, 2, 2, 0⟩ from rfl]
    have d1 : (3 * k + 2) / 3 = k := by omega
    have d2 : (3 * k + 2 + 1) / 3 = k + 1 := by omega
    have d3 : (3 * k + 2 + 1 + 1) / 3 = k + 1 := by omega
    have n1 : ¬ 3 * k + 2 = 3 * b := by omega
    simp [List.getD, PB.next, PB.setT, PB.put, PB.t, PTask.goTo, PTask.get, apB, apC, PB.more, hl, d1, d2, d3, n1]
    omega
theorem ap_can0 {B : PB} {a p : Nat} (hp : p ≤ 3 * a) : B.canGo (apA a p) = decide (p < 3 * a) := by
  by_cases h : p = 3 * a
  · subst h
    simp [PB.canGo, apA]
  · have hlt : p < 3 * a := by omega
    have hi : (apA a p).ins = blkA.getD (p % 3) ins0 := by unfold PTask.ins apA; exact reps_get rfl a p hlt
    have hw : (apA a p).wants = none := by
      unfold PTask.wants
      rw [hi, if_neg (by simp [apA, h])]
      have hm : p % 3 = 0 ∨ p % 3 = 1 ∨ p % 3 = 2 := by omega
      rcases hm with hm | hm | hm <;> rw [hm] <;> simp [blkA, List.getD]
    unfold PB.canGo
    rw [hw]
    simp [apA, h, PB.free, hlt]
theorem ap_can1 {B : PB} {a p : Nat} (hp : p ≤ 3 * a) : B.canGo (apC a p) = decide (p < 3 * a) := by
  by_cases h : p = 3 * a
  · subst h
    simp [PB.canGo, apC]
  · have hlt : p < 3 * a := by omega
    have hi : (apC a p).ins = blkB.getD (p % 3) ins0 := by unfold PTask.ins apC; exact reps_get rfl a p hlt
    have hw : (apC a p).wants = none := by
      unfold PTask.wants
      rw [hi, if_neg (by simp [apC, h])]
      have hm : p % 3 = 0 ∨ p % 3 = 1 ∨ p % 3 = 2 := by omega
      rcases hm with hm | hm | hm <;> rw [hm] <;> simp [blkB, List.getD]
    unfold PB.canGo
    rw [hw]
    simp [apC, h, PB.free, hlt]
theorem ap_able {a b p q : Nat} (hp : p ≤ 3 * a) (hq : q ≤ 3 * b) : (apB a b p q).able = (if p < 3 * a then [0] else []) ++ (if q < 3 * b then [1] else []) := by
  have e1 : (apB a b p q).able = ableL (apB a b p q).canGo [apA a p, apC b q] 0 := rfl
  rw [e1]
  simp only [ableL, ap_can0 hp, ap_can1 hq]
  by_cases h1 : p < 3 * a <;> by_cases h2 : q < 3 * b <;> simp [h1, h2]
theorem ap_step {a b p q : Nat} (hp : p ≤ 3 * a) (hq : q ≤ 3 * b) (ha : a < 20) (hb : b < 20) (n : Int) : (p = 3 * a ∧ q = 3 * b ∧ (apB a b p q).step n = apB a b p q) ∨ (p < 3 * a ∧ (apB a b p q).step n = apB a b (p + 1) q) ∨ (q < 3 * b ∧ (apB a b p q).step n = apB a b p (q + 1)) := by
  unfold PB.step
  rw [ap_able hp hq]
  by_cases h1 : p < 3 * a <;> by_cases h2 : q < 3 * b
  · simp only [h1, h2, if_true, List.singleton_append, List.length_cons, List.length_nil]
    rw [if_neg (by omega)]
    have hm : (fromZ n).toNat % (0 + 1 + 1) = 0 ∨ (fromZ n).toNat % (0 + 1 + 1) = 1 := by omega
    rcases hm with hm | hm <;> rw [hm]
    · exact .inr (.inl ⟨trivial, ap_act0 h1 ha⟩)
    · exact .inr (.inr ⟨trivial, ap_act1 h2 hb⟩)
  · simp only [h1, h2, if_true, if_false, List.append_nil, List.length_cons, List.length_nil]
    rw [if_neg (by omega), show (fromZ n).toNat % (0 + 1) = 0 by omega]
    exact .inr (.inl ⟨trivial, ap_act0 h1 ha⟩)
  · simp only [h1, h2, if_true, if_false, List.nil_append, List.length_cons, List.length_nil]
    rw [if_neg (by omega), show (fromZ n).toNat % (0 + 1) = 0 by omega]
    exact .inr (.inr ⟨trivial, ap_act1 h2 hb⟩)
  · simp only [h1, h2, if_false, List.append_nil, List.length_nil]
    exact .inl ⟨by omega, by omega, if_pos trivial⟩
theorem ap_run {a b : Nat} (ha : a < 20) (hb : b < 20) : ∀ (l : List Int) (p q : Nat), p ≤ 3 * a → q ≤ 3 * b → 3 * a + 3 * b ≤ p + q + l.length → (apB a b p q).run l = apB a b (3 * a) (3 * b)
  | [], p, q, hp, hq, h => by
    obtain rfl : p = 3 * a := by simp at h; omega
    obtain rfl : q = 3 * b := by simp at h; omega
    rfl
  | n :: l, p, q, hp, hq, h => by
    have er : (apB a b p q).run (n :: l) = ((apB a b p q).step n).run l := rfl
    rw [er]
    simp only [List.length_cons] at h
    rcases ap_step hp hq ha hb n with ⟨h1, h2, e⟩ | ⟨h1, e⟩ | ⟨h1, e⟩ <;> rw [e]
    · exact ap_run ha hb l p q hp hq (by omega)
    · exact ap_run ha hb l (p + 1) q (by omega) hq (by omega)
    · exact ap_run ha hb l p (q + 1) hp (by omega) (by omega)
/-- What SchedApart asks, plainly. -/
theorem ap_all {a b : Nat} (ha : a < 20) (hb : b < 20) {l : List Int} (hl : 3 * (a + b) ≤ l.length) : (begins [reps blkA a, reps blkB b] []).run l = apB a b (3 * a) (3 * b) := by
  rw [ap_begins]
  exact ap_run ha hb l 0 0 (by omega) (by omega) (by omega)
theorem ap_states (a b : Nat) : (apB a b (3 * a) (3 * b)).states = [2, 2] := by simp [PB.states, PB.state, apB, apA, apC]
theorem ap_cells (a b : Nat) : (apB a b (3 * a) (3 * b)).cells = [0, (a : Int), 2 * (b : Int), 0, 0, 0, 0, 0, 0, 0, 0, 0, 0, 0, 0, 0] := by
  have e1 : 3 * a / 3 = a := by omega
  have e2 : 3 * b / 3 = b := by omega
  simp [apB, e1, e2]
theorem all_ok_reps {l : List Ins} (h : l.length = 3) {n : Nat} (hn : n < 20) (hok : l.all (fun x => insOk x 0) = true) (hall : ∀ x ∈ l, ∀ m, insOk x 0 = true → insOk x m = true) : codeOk (reps l n) = true := by
  have key : ∀ k, (reps l k).all (fun x => insOk x (reps l n).length) = true := by
    intro k
    induction k with
    | zero => rfl
    | succ k ih =>
      rw [reps, List.all_append, ih, Bool.true_and]
      rw [List.all_eq_true] at hok ⊢
      exact fun x hx => hall x hx _ (hok x hx)
  unfold codeOk
  rw [key n, reps_len h n]
  simp
  omega
theorem ap_ok {a b : Nat} (ha : a < 20) (hb : b < 20) : allOk [reps blkA a, reps blkB b] [] = true := by
  have h1 : codeOk (reps blkA a) = true := all_ok_reps rfl ha (by decide) (by simp [blkA, insOk])
  have h2 : codeOk (reps blkB b) = true := all_ok_reps rfl hb (by decide) (by simp [blkB, insOk])
  simp [allOk, h1, h2]
end Go.Proofs.Ytehkcgjiimfdjaa
