/- What comes first is taken, plainly. -/
import Derived.Test.YtfijibengmgegaaM16MgL
namespace Go.Proofs.Ytfijibengmgegaa
open Go.RowKit
set_option linter.unusedVariables false
set_option linter.unusedSimpArgs false
def stepV : Bool → (Nat → Nat) → Nat → Nat → Nat
  | true, v, b => fun i => if i = b then v b + 1 else v i
  | false, v, b => fun i => if i = b then v b - 1 else v i
section
variable {up : Bool} {ps qs : List PlL} {L : List (List KV)} {v : Nat → Nat} {ln : Nat} {x : PlL}
theorem Gp.top (h : Gp L up v ln ps) (hL : RiseL L) (hv : ∀ i, v i ≤ lenL L i) (hne : 0 < ps.length) {q : PlL} (hq : q ∈ ps) (hqx : q ≠ ps.getD 0 d0) : ltD L up (ps.getD 0 d0) q := by
  obtain ⟨k, hk, rfl⟩ := List.getElem_of_mem hq
  have h1 := h.heap.top (ltD_ord L up) k hk
  have e : ps.getD k d0 = ps[k] := by simp [List.getD, hk]
  rw [e] at h1
  have hx : ps.getD 0 d0 ∈ ps := by simp [List.getD, hne]
  have v1 := ((h.mem _).1 hx).2.valid hv
  have v2 := ((h.mem _).1 hq).2.valid hv
  rcases ahead_total hL v1 v2 with e | e | e
  · exact absurd e.symm hqx
  · cases up with
    | true => exact e
    | false => exact absurd e h1
  · cases up with
    | true => exact absurd e h1
    | false => exact e
theorem NextD.lt (hv : ∀ i, v i ≤ lenL L i) {q : PlL} (h : NextD L up v q) : q.1 < L.length := by
  have := h.valid hv
  apply Classical.byContradiction
  intro hn
  have h2 := lenL_out (L := L) (i := q.1) (by omega)
  have h3 : q.2 < lenL L q.1 := this
  omega
theorem sum_down {b : Nat} (hb : 0 < v b) {n : Nat} (hbn : b < n) : sumV (stepV false v b) n + 1 = sumV v n := by
  have h := sum_upd (stepV false v b) b n hbn
  rw [← h]
  congr 1
  funext i
  unfold stepV
  dsimp only
  by_cases e : i = b
  · subst e; simp; omega
  · simp [e]
/-- Where the taken one stands, and the new cut. -/
theorem Gp.cut (h : Gp L up v L.length ps) (hL : RiseL L) (hc : CutL L v) (hne : 0 < ps.length) : CutL L (stepV up v (ps.getD 0 d0).1) ∧
    (up = true → (allP L)[sumV v L.length]? = some (ps.getD 0 d0) ∧ sumV (stepV up v (ps.getD 0 d0).1) L.length = sumV v L.length + 1) ∧
    (up = false → (allP L)[sumV (stepV up v (ps.getD 0 d0).1) L.length]? = some (ps.getD 0 d0) ∧ sumV (stepV up v (ps.getD 0 d0).1) L.length + 1 = sumV v L.length) := by
  have hx : ps.getD 0 d0 ∈ ps := by simp [List.getD, hne]
  have hn := ((h.mem _).1 hx)
  have htop := fun q (hq : q ∈ ps) (hqx : q ≠ ps.getD 0 d0) => h.top hL hc.le hne hq hqx
  generalize ps.getD 0 d0 = x at hn htop ⊢
  obtain ⟨b, j⟩ := x
  obtain ⟨hb, hn⟩ := hn
  dsimp only at hb ⊢
  cases up with
  | true =>
    obtain ⟨e, hj⟩ := hn
    dsimp only at e hj
    subst e
    obtain ⟨g1, g2⟩ := cut_next hL hc hj fun i hi hib => htop (i, v i) ((h.mem _).2 ⟨NextD.lt (up := true) (v := v) hc.le ⟨rfl, hi⟩, rfl, hi⟩) (fun e => hib (Prod.mk.inj e).1)
    exact ⟨g2, fun _ => ⟨g1, sum_upd v b _ hb⟩, fun e => (by cases e)⟩
  | false =>
    have e : j + 1 = v b := hn
    have hj : j = v b - 1 := by omega
    subst hj
    have hb0 : 0 < v b := by omega
    obtain ⟨g1, g2⟩ := cut_prev hL hc hb0 fun i hi hib => by
      have h1 : NextD L false v (i, v i - 1) := show v i - 1 + 1 = v i by omega
      exact htop (i, v i - 1) ((h.mem _).2 ⟨h1.lt hc.le, h1⟩) (fun e => hib (Prod.mk.inj e).1)
    exact ⟨g1, fun e => (by cases e), fun _ => ⟨g2, sum_down hb0 hb⟩⟩
/-- What stands next behind one that was taken. -/
theorem next_step {up : Bool} {v : Nat → Nat} {x : PlL} (hx : NextD L up v x) (hv : ∀ i, v i ≤ lenL L i) (q : PlL) : NextD L up (stepV up v x.1) q ↔ (q.1 = x.1 ∧ 0 ≤ (x.2 : Int) + stepI up ∧ (x.2 : Int) + stepI up < (lenL L x.1 : Int) ∧ (q.2 : Int) = (x.2 : Int) + stepI up) ∨ (q.1 ≠ x.1 ∧ NextD L up v q) := by
  obtain ⟨b, j⟩ := x
  obtain ⟨i, y⟩ := q
  dsimp only
  cases up with
  | true =>
    obtain ⟨e, hj⟩ := hx
    dsimp only at e hj
    subst e
    by_cases e : i = b
    · subst e
      simp only [NextD, stepV, stepI, if_true, true_and, ne_eq, not_true, false_and, or_false]
      omega
    · simp only [NextD, stepV, e, if_false, false_and, false_or, ne_eq, not_false_iff, true_and]
  | false =>
    have e0 : j + 1 = v b := hx
    have hvb := hv b
    by_cases e : i = b
    · subst e
      simp only [NextD, stepV, stepI, if_true, true_and, ne_eq, not_true, false_and, or_false]
      omega
    · simp only [NextD, stepV, e, if_false, false_and, false_or, ne_eq, not_false_iff, true_and]
theorem head_one (h : Gp L up v ln ps) {q x : PlL} (hq : q ∈ ps) (hx : x ∈ ps) (e : q.1 = x.1) : q = x := by
  have h1 := ((h.mem _).1 hq).2
  have h2 := ((h.mem _).1 hx).2
  obtain ⟨b, j⟩ := x
  obtain ⟨i, y⟩ := q
  dsimp only at e
  subst e
  cases up with
  | true =>
    have := h1.1; have := h2.1
    dsimp only at *
    simp; omega
  | false =>
    have a1 : y + 1 = v i := h1
    have a2 : j + 1 = v i := h2
    simp; omega
/-- Another one of its list stands in its place. -/
theorem Gp.fixed (h : Gp L up v ln ps) (hv : ∀ i, v i ≤ lenL L i) (hne : 0 < ps.length) {j : Nat} (hj : (j : Int) = ((ps.getD 0 d0).2 : Int) + stepI up) (hlt : j < lenL L (ps.getD 0 d0).1) (hp : qs.Perm (ps.set 0 ((ps.getD 0 d0).1, j))) (hh : HeapF (ltD L up) qs.length 0 (fun k => qs.getD k d0)) : Gp L up (stepV up v (ps.getD 0 d0).1) ln qs := by
  cases ps with
  | nil => exact absurd hne (Nat.lt_irrefl _)
  | cons x t =>
    have hx0 : (x :: t).getD 0 d0 = x := rfl
    rw [hx0] at hj hlt hp ⊢
    have hxm : x ∈ x :: t := by simp
    have hn := ((h.mem _).1 hxm)
    have hnd := List.nodup_cons.1 h.nodup
    have hst : (x :: t).set 0 (x.1, j) = (x.1, j) :: t := rfl
    rw [hst] at hp
    have key : ∀ q, q ∈ t ↔ q ∈ x :: t ∧ q.1 ≠ x.1 := fun q => by
      constructor
      · intro hq
        refine ⟨by simp [hq], fun e => ?_⟩
        have := head_one h (show q ∈ x :: t by simp [hq]) hxm e
        subst this
        exact hnd.1 hq
      · rintro ⟨hq, hne⟩
        rcases List.mem_cons.1 hq with e | e
        · exact absurd (by rw [e]) hne
        · exact e
    refine ⟨fun q => ?_, ?_, hh, by rw [hp.length_eq]; have := h.len; simpa using this⟩
    · rw [hp.mem_iff, List.mem_cons, key, h.mem, next_step hn.2 hv]
      constructor
      · rintro (rfl | ⟨⟨a, b⟩, c⟩)
        · exact ⟨hn.1, .inl ⟨rfl, by omega, by omega, hj⟩⟩
        · exact ⟨a, .inr ⟨c, b⟩⟩
      · rintro ⟨a, ⟨b, _, _, c⟩ | ⟨b, c⟩⟩
        · left
          obtain ⟨i, y⟩ := q
          dsimp only at b c
          subst b
          have : y = j := by omega
          rw [this]
        · exact .inr ⟨⟨a, c⟩, b⟩
    · rw [hp.nodup_iff]
      exact List.nodup_cons.2 ⟨fun hm => ((key _).1 hm).2 rfl, hnd.2⟩
/-- Its list has no more. -/
theorem Gp.popped (h : Gp L up v ln ps) (hv : ∀ i, v i ≤ lenL L i) (hne : 0 < ps.length) (hno : ¬ (0 ≤ ((ps.getD 0 d0).2 : Int) + stepI up ∧ ((ps.getD 0 d0).2 : Int) + stepI up < (lenL L (ps.getD 0 d0).1 : Int))) (hp : (qs ++ [ps.getD 0 d0]).Perm ps) (hh : HeapF (ltD L up) qs.length 0 (fun k => qs.getD k d0)) : Gp L up (stepV up v (ps.getD 0 d0).1) ln qs := by
  have hxm : ps.getD 0 d0 ∈ ps := by simp [List.getD, hne]
  generalize ps.getD 0 d0 = x at *
  have hn := ((h.mem _).1 hxm)
  have hnd := List.nodup_append.1 (hp.nodup_iff.2 h.nodup)
  have key : ∀ q, q ∈ qs ↔ q ∈ ps ∧ q.1 ≠ x.1 := fun q => by
    constructor
    · intro hq
      have hqp : q ∈ ps := hp.mem_iff.1 (by simp [hq])
      exact ⟨hqp, fun e => hnd.2.2 q hq x (by simp) (head_one h hqp hxm e)⟩
    · rintro ⟨hq, hne⟩
      rcases List.mem_append.1 (hp.mem_iff.2 hq) with e | e
      · exact e
      · exact absurd (by rw [List.mem_singleton.1 e]) hne
  refine ⟨fun q => ?_, hnd.1, hh, by have := hp.length_eq; have := h.len; simp at *; omega⟩
  rw [key, h.mem, next_step hn.2 hv]
  constructor
  · rintro ⟨⟨a, b⟩, c⟩
    exact ⟨a, .inr ⟨c, b⟩⟩
  · rintro ⟨a, ⟨b, c, d, _⟩ | ⟨b, c⟩⟩
    · exact absurd ⟨c, d⟩ hno
    · exact ⟨⟨a, c⟩, b⟩
/-- There is none next to the gap. -/
theorem Gp.none (h : Gp L up v L.length []) (hc : CutL L v) : (up = true → sumV v L.length = (allP L).length) ∧ (up = false → sumV v L.length = 0) := by
  refine ⟨fun e => ?_, fun e => ?_⟩
  · subst e
    apply Nat.le_antisymm (sum_all hc)
    rw [all_len]
    refine sum_le _ fun i hi => ?_
    apply Classical.byContradiction
    intro hlt
    have := (h.mem (i, v i)).2 ⟨hi, rfl, show v i < lenL L i by omega⟩
    cases this
  · subst e
    have hz : ∀ n, n ≤ L.length → sumV v n = 0 := fun n => by
      induction n with
      | zero => exact fun _ => rfl
      | succ n ih =>
        intro hn
        show sumV v n + v n = 0
        rw [ih (by omega), Nat.zero_add]
        apply Classical.byContradiction
        intro hne
        have := (h.mem (n, v n - 1)).2 ⟨by show n < L.length; omega, show v n - 1 + 1 = v n by omega⟩
        cases this
    exact hz _ (Nat.le_refl _)
end
end Go.Proofs.Ytfijibengmgegaa
