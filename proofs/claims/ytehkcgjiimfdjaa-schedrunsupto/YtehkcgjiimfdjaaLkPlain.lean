/- Tasks that count behind a mutex, plainly: however they take turns, no count is lost. -/
import Derived.Test.YtehkcgjiimfdjaaApPlain
import Derived.Test.YtehkcgjiimfdjaaAble5
namespace Go.Proofs.Ytehkcgjiimfdjaa
open Go.RowKit
theorem sum_set {α : Type} (f : α → Nat) (d v : α) : ∀ (l : List α) (i : Nat), i < l.length → ((l.set i v).map f).sum + f (l.getD i d) = (l.map f).sum + f v
  | [], i, h => by simp at h
  | x :: l, 0, _ => by simp; omega
  | x :: l, i + 1, h => by
    have := sum_set f d v l i (by simpa using h)
    simp [List.getD] at this ⊢
    omega
theorem able_none {f : PTask → Bool} : ∀ (l : List PTask) (k : Nat), (ableL f l k).length = 0 → ∀ t ∈ l, f t = false
  | [], _, _, t, ht => by cases ht
  | x :: l, k, h, t, ht => by
    rw [ableL] at h
    cases hx : f x with
    | true => rw [hx] at h; simp at h
    | false =>
      rw [hx] at h
      rcases List.mem_cons.1 ht with rfl | ht
      · exact hx
      · exact able_none l (k + 1) (by simpa using h) t ht
theorem getD_mem {α : Type} (l : List α) (d : α) {i : Nat} (h : i < l.length) : l.getD i d ∈ l := by simp [List.getD, h]
theorem getD_map {α β : Type} (f : α → β) (l : List α) (d : α) (e : β) {i : Nat} (h : i < l.length) : (l.map f).getD i e = f (l.getD i d) := by simp [List.getD, h]
theorem getD_set_same {α : Type} (l : List α) (d v : α) {i : Nat} (h : i < l.length) : (l.set i v).getD i d = v := by simp [List.getD, h]
theorem getD_set_other {α : Type} (l : List α) (d v : α) {i k : Nat} (h : i ≠ k) : (l.set i v).getD k d = l.getD k d := by simp [List.getD, List.getElem?_set_ne h]
def lkC (r : Nat) : List Ins := [⟨4, 1, (r : Int), 0⟩, ⟨8, 0, 0, 0⟩, ⟨1, 0, 0, 0⟩, ⟨5, 0, 1, 0⟩, ⟨2, 0, 0, 0⟩, ⟨9, 0, 0, 0⟩, ⟨5, 1, -1, 0⟩, ⟨6, 1, 9, 0⟩, ⟨7, 0, 1, 0⟩, ⟨14, 0, 0, 0⟩]
def plc (r s : Nat) : Nat := if 8 * r ≤ s then 9 else if s = 0 then 0 else (s - 1) % 8 + 1
def rgk (r s : Nat) : Nat := if s = 0 then 0 else r - (s + 1) / 8
def phs (r s : Nat) : Nat := if 8 * r < s then 3 else 0
def lkT (r : Nat) (q : Nat × Int) : PTask := ⟨lkC r, plc r q.1, [q.2, ((rgk r q.1 : Nat) : Int), 0, 0], phs r q.1⟩
def lkN (P : List (Nat × Int)) : Nat := (P.map fun q => (q.1 + 3) / 8).sum
def lkS (P : List (Nat × Int)) : Nat := (P.map fun q => q.1).sum
def lkB (r : Nat) (P : List (Nat × Int)) (o : Option Nat) : PB := ⟨((lkN P : Nat) : Int) :: List.replicate 15 0, o :: List.replicate 15 none, P.map (lkT r), [], lkS P⟩
def crit (r s : Nat) : Prop := 2 ≤ plc r s ∧ plc r s ≤ 5
structure Lk (r : Nat) (P : List (Nat × Int)) (o : Option Nat) : Prop where
  top : ∀ k, k < P.length → (P.getD k (0, 0)).1 ≤ 8 * r + 1
  own : ∀ k, k < P.length → (o = some k ↔ crit r (P.getD k (0, 0)).1)
  has : ∀ k, o = some k → k < P.length
  reg : ∀ k, k < P.length → (plc r (P.getD k (0, 0)).1 = 3 → (P.getD k (0, 0)).2 = (lkN P : Nat)) ∧ (plc r (P.getD k (0, 0)).1 = 4 → (P.getD k (0, 0)).2 = (lkN P : Nat) + 1)
theorem plc_at {r j m : Nat} (hm : m < 8) (h : 8 * j + m + 1 < 8 * r) : plc r (8 * j + m + 1) = m + 1 := by
  unfold plc
  rw [if_neg (by omega), if_neg (by omega)]
  omega
theorem plc_end {r s : Nat} (h : 8 * r ≤ s) : plc r s = 9 := by unfold plc; rw [if_pos h]
theorem plc_zero {r : Nat} (h : 0 < r) : plc r 0 = 0 := by unfold plc; rw [if_neg (by omega), if_pos rfl]
theorem lk_cases {r s : Nat} (hr : 0 < r) (h : s ≤ 8 * r) : s = 0 ∨ s = 8 * r ∨ ∃ j m, m < 8 ∧ s = 8 * j + m + 1 ∧ 8 * j + m + 1 < 8 * r := by
  by_cases h0 : s = 0
  · exact .inl h0
  · by_cases h1 : s = 8 * r
    · exact .inr (.inl h1)
    · exact .inr (.inr ⟨(s - 1) / 8, (s - 1) % 8, by omega, by omega, by omega⟩)
theorem act_1 {B : PB} {i : Nat} {a b c : Int} (h : (B.t i).ins = ⟨1, a, b, c⟩) : B.act i = (B.setT i ((B.t i).reg a.toNat (B.get b))).next i ((B.t i).place + 1) := by simp [PB.act, h]
theorem act_2 {B : PB} {i : Nat} {a b c : Int} (h : (B.t i).ins = ⟨2, a, b, c⟩) : B.act i = (B.put a ((B.t i).get b)).next i ((B.t i).place + 1) := by simp [PB.act, h]
theorem act_3 {B : PB} {i : Nat} {a b c : Int} (h : (B.t i).ins = ⟨3, a, b, c⟩) : B.act i = (B.swap i ⟨3, a, b, c⟩).next i ((B.t i).place + 1) := by simp [PB.act, h]
theorem act_4 {B : PB} {i : Nat} {a b c : Int} (h : (B.t i).ins = ⟨4, a, b, c⟩) : B.act i = (B.setT i ((B.t i).reg a.toNat b)).next i ((B.t i).place + 1) := by simp [PB.act, h]
theorem act_5 {B : PB} {i : Nat} {a b c : Int} (h : (B.t i).ins = ⟨5, a, b, c⟩) : B.act i = (B.setT i ((B.t i).reg a.toNat (wrap64 ((B.t i).get a + b)))).next i ((B.t i).place + 1) := by simp [PB.act, h]
theorem act_6 {B : PB} {i : Nat} {a b c : Int} (h : (B.t i).ins = ⟨6, a, b, c⟩) : B.act i = B.next i (if (B.t i).get a = 0 then b.toNat else (B.t i).place + 1) := by simp [PB.act, h]
theorem act_7 {B : PB} {i : Nat} {a b c : Int} (h : (B.t i).ins = ⟨7, a, b, c⟩) : B.act i = B.next i b.toNat := by simp [PB.act, h]
theorem act_8 {B : PB} {i : Nat} {a b c : Int} (h : (B.t i).ins = ⟨8, a, b, c⟩) : B.act i = (B.has a (some i)).next i ((B.t i).place + 1) := by simp [PB.act, h]
theorem act_9 {B : PB} {i : Nat} {a b c : Int} (h : (B.t i).ins = ⟨9, a, b, c⟩) : B.act i = (B.release i a 0).next i ((B.t i).place + 1) := by simp [PB.act, h]
theorem act_13 {B : PB} {i : Nat} {a b c : Int} (h : (B.t i).ins = ⟨13, a, b, c⟩) : B.act i = ({ B with em := B.em ++ [(i, (B.t i).get a)] } : PB).next i ((B.t i).place + 1) := by simp [PB.act, h]
theorem act_14 {B : PB} {i : Nat} {a b c : Int} (h : (B.t i).ins = ⟨14, a, b, c⟩) : B.act i = B.setT i ((B.t i).at 3) := by simp [PB.act, h]
theorem lk_t {r : Nat} {P : List (Nat × Int)} {o : Option Nat} {i : Nat} (hi : i < P.length) : (lkB r P o).more.t i = lkT r (P.getD i (0, 0)) := getD_map (lkT r) P (0, 0) task0 hi
theorem stores_le {r : Nat} : ∀ (P : List (Nat × Int)), (∀ q ∈ P, q.1 ≤ 8 * r + 1) → lkN P ≤ P.length * r
  | [], _ => by simp [lkN]
  | q :: P, h => by
    have h1 := stores_le P (fun x hx => h x (List.mem_cons_of_mem _ hx))
    have h2 := h q (List.mem_cons_self ..)
    simp [lkN] at h1 ⊢
    have : (q.1 + 3) / 8 ≤ r := by omega
    rw [Nat.add_mul]
    omega
theorem lkN_set {P : List (Nat × Int)} {i : Nat} (hi : i < P.length) (x : Int) : lkN (P.set i ((P.getD i (0, 0)).1 + 1, x)) + ((P.getD i (0, 0)).1 + 3) / 8 = lkN P + ((P.getD i (0, 0)).1 + 4) / 8 := by
  have := sum_set (fun q : Nat × Int => (q.1 + 3) / 8) (0, 0) ((P.getD i (0, 0)).1 + 1, x) P i hi
  unfold lkN
  rw [this]
theorem lkS_set {P : List (Nat × Int)} {i : Nat} (hi : i < P.length) (x : Int) : lkS (P.set i ((P.getD i (0, 0)).1 + 1, x)) = lkS P + 1 := by
  have := sum_set (fun q : Nat × Int => q.1) (0, 0) ((P.getD i (0, 0)).1 + 1, x) P i hi
  simp only at this
  unfold lkS
  omega
/-- A turned board, told anew. -/
theorem lk_fold {r : Nat} {P : List (Nat × Int)} {o' : Option Nat} {i : Nat} (hi : i < P.length) {x c : Int} {t : PTask} (ht : t = lkT r ((P.getD i (0, 0)).1 + 1, x)) (hc : c = (lkN (P.set i ((P.getD i (0, 0)).1 + 1, x)) : Nat)) :
    (⟨c :: List.replicate 15 0, o' :: List.replicate 15 none, (P.map (lkT r)).set i t, [], lkS P + 1⟩ : PB) = lkB r (P.set i ((P.getD i (0, 0)).1 + 1, x)) o' := by
  rw [hc, ht, lkB, lkS_set hi, List.map_set]
theorem lk_next {r : Nat} {P : List (Nat × Int)} {cs : List Int} {ow : List (Option Nat)} {i st n : Nat} (hi : i < P.length) {t : PTask} (hph : t.ph = 0) (hc : t.code.length ≠ n) : (⟨cs, ow, (P.map (lkT r)).set i t, [], st⟩ : PB).next i n = ⟨cs, ow, (P.map (lkT r)).set i { t with place := n }, [], st⟩ := by
  have e : (⟨cs, ow, (P.map (lkT r)).set i t, [], st⟩ : PB).t i = t := getD_set_same _ _ _ (by simpa using hi)
  unfold PB.next
  rw [e, if_pos hph, PB.setT]
  simp [PTask.goTo, hph, Ne.symm hc]
theorem set_self {α : Type} (l : List α) (d : α) {i : Nat} (h : i < l.length) : l.set i (l.getD i d) = l := by
  simp [List.getD, h]
theorem lk_next0 {r : Nat} {P : List (Nat × Int)} {cs : List Int} {ow : List (Option Nat)} {i st n : Nat} (hi : i < P.length) {t : PTask} (ht : lkT r (P.getD i (0, 0)) = t) (hph : t.ph = 0) (hc : t.code.length ≠ n) : (⟨cs, ow, P.map (lkT r), [], st⟩ : PB).next i n = ⟨cs, ow, (P.map (lkT r)).set i { t with place := n }, [], st⟩ := by
  have e : (⟨cs, ow, P.map (lkT r), [], st⟩ : PB).t i = t := (getD_map (lkT r) P (0, 0) task0 hi).trans ht
  unfold PB.next
  rw [e, if_pos hph, PB.setT]
  simp [PTask.goTo, hph, Ne.symm hc]
theorem lk_keep {r : Nat} {P : List (Nat × Int)} {o o' : Option Nat} (h : Lk r P o) {i : Nat} (hi : i < P.length) {s : Nat} {x' : Int} (hs : s ≤ 8 * r) (hN : lkN (P.set i (s + 1, x')) = lkN P ∨ o = some i) (ho : o' = some i ↔ crit r (s + 1)) (hk : ∀ k, k ≠ i → (o' = some k ↔ o = some k))
    (h3 : plc r (s + 1) = 3 → x' = (lkN (P.set i (s + 1, x')) : Nat)) (h4 : plc r (s + 1) = 4 → x' = (lkN (P.set i (s + 1, x')) : Nat) + 1) : Lk r (P.set i (s + 1, x')) o' := by
  have hlen : (P.set i (s + 1, x')).length = P.length := by simp
  refine ⟨fun k hk' => ?_, fun k hk' => ?_, fun k hk' => ?_, fun k hk' => ?_⟩
  · rw [hlen] at hk'
    by_cases e : i = k
    · subst e
      rw [getD_set_same _ _ _ hi]
      simp only
      omega
    · rw [getD_set_other _ _ _ e]
      exact h.top k hk'
  · rw [hlen] at hk'
    by_cases e : i = k
    · subst e
      rw [getD_set_same _ _ _ hi]
      exact ho
    · rw [getD_set_other _ _ _ e, hk k (Ne.symm e)]
      exact h.own k hk'
  · rw [hlen]
    by_cases e : i = k
    · subst e
      exact hi
    · exact h.has k ((hk k (Ne.symm e)).1 hk')
  · rw [hlen] at hk'
    by_cases e : i = k
    · subst e
      rw [getD_set_same _ _ _ hi]
      exact ⟨h3, h4⟩
    · rw [getD_set_other _ _ _ e]
      rcases hN with hN | hN
      · rw [hN]
        exact h.reg k hk'
      · have hnc : ¬ crit r (P.getD k (0, 0)).1 := fun hc => by
          have := (h.own k hk').2 hc
          rw [hN] at this
          exact e (Option.some.inj this)
        unfold crit at hnc
        exact ⟨fun e3 => absurd ⟨by omega, by omega⟩ hnc, fun e4 => absurd ⟨by omega, by omega⟩ hnc⟩
theorem lk_act {r : Nat} (hr : 0 < r) (hr9 : r ≤ 9) {P : List (Nat × Int)} (hn : P.length ≤ 8) {o : Option Nat} (h : Lk r P o) {i : Nat} (hi : i < P.length) {s : Nat} {x : Int} (hq : P.getD i (0, 0) = (s, x)) (hs : s ≤ 8 * r) (hfree : plc r s = 1 → o = none) :
    ∃ x' o', (lkB r P o).more.act i = lkB r (P.set i (s + 1, x')) o' ∧ Lk r (P.set i (s + 1, x')) o' := by
  have ht : (lkB r P o).more.t i = lkT r (s, x) := by rw [lk_t hi, hq]
  have hins : ((lkB r P o).more.t i).ins = (lkC r).getD (plc r s) ins0 := by rw [ht]; rfl
  have hN := fun x' => lkN_set hi x' (P := P)
  have hF := fun (x' c : Int) (o' : Option Nat) (t : PTask) => lk_fold (r := r) (o' := o') (x := x') (c := c) (t := t) hi
  have hI := h.own i hi
  have hR := h.reg i hi
  have hph : phs r s = 0 := by unfold phs; rw [if_neg (by omega)]
  rw [hq] at hN hF hI hR
  simp only at hN hF hI hR
  have hle : lkN P ≤ P.length * r := stores_le P fun q hq => by
    obtain ⟨k, hk, rfl⟩ := List.getElem_of_mem hq
    have := h.top k hk
    simpa [List.getD, hk] using this
  have hle2 : lkN P ≤ 72 := Nat.le_trans hle (Nat.mul_le_mul hn hr9)
  have hx : lkT r (P.getD i (0, 0)) = lkT r (s, x) := by rw [hq]
  have NE : ∀ {a b : Nat}, plc r (s + 1) = a → a ≠ b → plc r (s + 1) ≠ b := fun e1 e2 e3 => e2 (e1.symm.trans e3)
  rcases lk_cases hr hs with h0 | h0 | ⟨j, m, hm, h0, hj⟩
  · have p0 : plc r s = 0 := by rw [h0]; exact plc_zero hr
    have p1 : plc r (s + 1) = 1 := by rw [h0]; have := plc_at (r := r) (j := 0) (m := 0) (by omega) (by omega); simpa using this
    have hN' : lkN (P.set i (s + 1, x)) = lkN P := by have := hN x; omega
    have g : rgk r (s + 1) = r := by unfold rgk; rw [if_neg (by omega), h0]; omega
    have f2 : phs r (s + 1) = 0 := by unfold phs; rw [if_neg (by omega)]
    rw [p0] at hins
    refine ⟨x, o, ?_, lk_keep h hi hs (.inl hN') ?_ (fun _ _ => Iff.rfl) (fun e => absurd e (NE p1 (by decide))) (fun e => absurd e (NE p1 (by decide)))⟩
    · rw [act_4 hins, ht]
      refine (lk_next hi (by exact hph) (by simp [lkT, PTask.reg, lkC, p0])).trans (hF x _ o _ ?_ ?_)
      · simp [lkT, PTask.reg, p0, p1, g, hph, f2]
      · rw [hN']
    · rw [hI]
      unfold crit
      rw [p0, p1]
      omega
  · have p0 : plc r s = 9 := plc_end (by omega)
    have p1 : plc r (s + 1) = 9 := plc_end (by omega)
    have hN' : lkN (P.set i (s + 1, x)) = lkN P := by have := hN x; omega
    have g0 : rgk r s = 0 := by unfold rgk; rw [if_neg (by omega)]; omega
    have g : rgk r (s + 1) = 0 := by unfold rgk; rw [if_neg (by omega)]; omega
    have f2 : phs r (s + 1) = 3 := by unfold phs; rw [if_pos (by omega)]
    rw [p0] at hins
    refine ⟨x, o, ?_, lk_keep h hi hs (.inl hN') ?_ (fun _ _ => Iff.rfl) (fun e => absurd e (NE p1 (by decide))) (fun e => absurd e (NE p1 (by decide)))⟩
    · rw [act_14 hins, ht]
      refine hF x _ o _ ?_ ?_
      · simp [lkT, PTask.at, p0, p1, g, g0, f2]
      · rw [hN']
    · rw [hI]
      unfold crit
      rw [p0, p1]
  · have p0 : plc r s = m + 1 := by rw [h0]; exact plc_at hm hj
    rw [p0] at hins hfree hR
    have f2 : phs r (s + 1) = 0 := by unfold phs; rw [if_neg (by omega)]
    have P1 : m < 7 → 8 * j + m + 2 < 8 * r → plc r (s + 1) = m + 2 := fun e e2 => by rw [h0]; exact plc_at (m := m + 1) (by omega) (by omega)
    have G : m ≠ 5 → rgk r (s + 1) = rgk r s := fun e => by
      have e1 : (s + 1 + 1) / 8 = (s + 1) / 8 := by omega
      unfold rgk
      rw [if_neg (show ¬ s + 1 = 0 by omega), if_neg (show ¬ s = 0 by omega), e1]
    rcases (by omega : m = 0 ∨ m = 1 ∨ m = 2 ∨ m = 3 ∨ m = 4 ∨ m = 5 ∨ m = 6 ∨ m = 7) with rfl | rfl | rfl | rfl | rfl | rfl | rfl | rfl
    · have p1 := P1 (by omega) (by omega)
      have g := G (by omega)
      have hN' : lkN (P.set i (s + 1, x)) = lkN P := by have := hN x; omega
      obtain rfl := hfree rfl
      refine ⟨x, some i, ?_, lk_keep h hi hs (.inl hN') ?_ (fun k hk => ?_) (fun e => absurd e (NE p1 (by decide))) (fun e => absurd e (NE p1 (by decide)))⟩
      · rw [act_8 hins, ht]
        refine (lk_next0 hi hx (by exact hph) (by simp [lkT, lkC, p0])).trans (hF x _ (some i) _ ?_ ?_)
        · simp [lkT, p0, p1, g, hph, f2]
        · rw [hN']
      · unfold crit
        rw [p1]
        simp
      · simp
        omega
    · have p1 := P1 (by omega) (by omega)
      have g := G (by omega)
      have hN' : ∀ x, lkN (P.set i (s + 1, x)) = lkN P := fun x => by have := hN x; omega
      refine ⟨(lkN P : Nat), o, ?_, lk_keep h hi hs (.inl (hN' _)) ?_ (fun _ _ => Iff.rfl) (fun _ => by rw [hN']) (fun e => absurd e (NE p1 (by decide)))⟩
      · rw [act_1 hins, ht]
        refine (lk_next hi (by exact hph) (by simp [lkT, PTask.reg, lkC, p0])).trans (hF (lkN P : Nat) _ o _ ?_ ?_)
        · simp [lkT, PTask.reg, p0, p1, g, hph, f2, PB.get, lkB, PB.more]
        · rw [hN']
      · rw [hI]
        unfold crit
        rw [p0, p1]
        omega
    · have p1 := P1 (by omega) (by omega)
      have g := G (by omega)
      have hN' : ∀ x, lkN (P.set i (s + 1, x)) = lkN P := fun x => by have := hN x; omega
      have hxe := hR.1 rfl
      have hw : wrap64 (x + 1) = ((lkN P : Nat) : Int) + 1 := by rw [hxe]; exact wrap_in (by omega)
      refine ⟨((lkN P : Nat) : Int) + 1, o, ?_, lk_keep h hi hs (.inl (hN' _)) ?_ (fun _ _ => Iff.rfl) (fun e => absurd e (NE p1 (by decide))) (fun _ => by rw [hN'])⟩
      · rw [act_5 hins, ht]
        refine (lk_next hi (by exact hph) (by simp [lkT, PTask.reg, lkC, p0])).trans (hF (((lkN P : Nat) : Int) + 1) _ o _ ?_ ?_)
        · simp [lkT, PTask.reg, PTask.get, p0, p1, g, hph, f2, hw]
        · rw [hN']
      · rw [hI]
        unfold crit
        rw [p0, p1]
        omega
    · have p1 := P1 (by omega) (by omega)
      have g := G (by omega)
      have hN' : ∀ x, lkN (P.set i (s + 1, x)) = lkN P + 1 := fun x => by have := hN x; omega
      have hxe := hR.2 rfl
      have ho : o = some i := hI.2 (by unfold crit; rw [p0]; omega)
      refine ⟨x, o, ?_, lk_keep h hi hs (.inr ho) ?_ (fun _ _ => Iff.rfl) (fun e => absurd e (NE p1 (by decide))) (fun e => absurd e (NE p1 (by decide)))⟩
      · rw [act_2 hins, ht]
        refine (lk_next0 hi hx (by exact hph) (by simp [lkT, lkC, p0])).trans (hF x _ o _ ?_ ?_)
        · simp [lkT, p0, p1, g, hph, f2]
        · rw [hN']
          simp [lkT, PTask.get, hxe]
      · rw [hI]
        unfold crit
        rw [p0, p1]
        omega
    · have p1 := P1 (by omega) (by omega)
      have g := G (by omega)
      have hN' : ∀ x, lkN (P.set i (s + 1, x)) = lkN P := fun x => by have := hN x; omega
      obtain rfl : o = some i := hI.2 (by unfold crit; rw [p0]; omega)
      have hrel : (lkB r P (some i)).more.release i 0 0 = ⟨((lkN P : Nat) : Int) :: List.replicate 15 0, none :: List.replicate 15 none, (P.map (lkT r)).set i (lkT r (s, x)), [], lkS P + 1⟩ := by
        unfold PB.release
        rw [if_pos (by rfl)]
        have e : ((lkB r P (some i)).more.t i).at 0 = lkT r (s, x) := by
          rw [ht]
          simp [PTask.at, lkT, hph]
        rw [e]
        rfl
      refine ⟨x, none, ?_, lk_keep h hi hs (.inl (hN' _)) ?_ (fun k hk => ?_) (fun e => absurd e (NE p1 (by decide))) (fun e => absurd e (NE p1 (by decide)))⟩
      · rw [act_9 hins, ht, hrel]
        refine (lk_next hi (by exact hph) (by simp [lkT, lkC, p0])).trans (hF x _ none _ ?_ ?_)
        · simp [lkT, p0, p1, g, hph, f2]
        · rw [hN']
      · unfold crit
        rw [p1]
        simp
      · simp
        omega
    · have p1 := P1 (by omega) (by omega)
      have hN' : ∀ x, lkN (P.set i (s + 1, x)) = lkN P := fun x => by have := hN x; omega
      have g1 : rgk r s = r - j := by unfold rgk; rw [if_neg (by omega)]; omega
      have g2 : rgk r (s + 1) = r - j - 1 := by unfold rgk; rw [if_neg (by omega)]; omega
      have hw : wrap64 (((r - j : Nat) : Int) + -1) = ((r - j - 1 : Nat) : Int) := by rw [wrap_in (by omega)]; omega
      refine ⟨x, o, ?_, lk_keep h hi hs (.inl (hN' _)) ?_ (fun _ _ => Iff.rfl) (fun e => absurd e (NE p1 (by decide))) (fun e => absurd e (NE p1 (by decide)))⟩
      · rw [act_5 hins, ht]
        refine (lk_next hi (by exact hph) (by simp [lkT, PTask.reg, lkC, p0])).trans (hF x _ o _ ?_ ?_)
        · simp [lkT, PTask.reg, PTask.get, p0, p1, g1, g2, hph, f2, hw]
        · rw [hN']
      · rw [hI]
        unfold crit
        rw [p0, p1]
        omega
    · have hN' : ∀ x, lkN (P.set i (s + 1, x)) = lkN P := fun x => by have := hN x; omega
      have g1 : rgk r s = r - j - 1 := by unfold rgk; rw [if_neg (by omega)]; omega
      have g2 : rgk r (s + 1) = r - j - 1 := by unfold rgk; rw [if_neg (by omega)]; omega
      have p1 : plc r (s + 1) = if r - j - 1 = 0 then 9 else 8 := by
        by_cases e : r - j - 1 = 0
        · rw [if_pos e, plc_end (by omega)]
        · rw [if_neg e]
          exact P1 (by omega) (by omega)
      have q1 : (lkT r (s, x)).get 1 = 0 ↔ r - j - 1 = 0 := by simp [lkT, PTask.get, g1]
      have p2 : (if (lkT r (s, x)).get 1 = 0 then ((9 : Int).toNat) else (lkT r (s, x)).place + 1) = plc r (s + 1) := by
        rw [p1]
        by_cases e : r - j - 1 = 0
        · rw [if_pos e, if_pos (q1.2 e)]
          rfl
        · rw [if_neg e, if_neg (fun c => e (q1.1 c))]
          simp [lkT, p0]
      have p3 : plc r (s + 1) = 9 ∨ plc r (s + 1) = 8 := by
        rw [p1]
        split
        · exact .inl rfl
        · exact .inr rfl
      refine ⟨x, o, ?_, lk_keep h hi hs (.inl (hN' _)) ?_ (fun _ _ => Iff.rfl) (fun e => by omega) (fun e => by omega)⟩
      · rw [act_6 hins, ht, p2]
        refine (lk_next0 hi hx (by exact hph) (by simp [lkT, lkC] <;> omega)).trans (hF x _ o _ ?_ ?_)
        · simp [lkT, g1, g2, hph, f2]
        · rw [hN']
      · rw [hI]
        unfold crit
        rw [p0]
        omega
    · have p1 : plc r (s + 1) = 1 := by have := plc_at (r := r) (j := j + 1) (m := 0) (by omega) (by omega); rw [show s + 1 = 8 * (j + 1) + 0 + 1 by omega]; exact this
      have g := G (by omega)
      have hN' : ∀ x, lkN (P.set i (s + 1, x)) = lkN P := fun x => by have := hN x; omega
      refine ⟨x, o, ?_, lk_keep h hi hs (.inl (hN' _)) ?_ (fun _ _ => Iff.rfl) (fun e => absurd e (NE p1 (by decide))) (fun e => absurd e (NE p1 (by decide)))⟩
      · rw [act_7 hins]
        refine (lk_next0 hi hx (by exact hph) (by simp [lkT, lkC])).trans (hF x _ o _ ?_ ?_)
        · simp [lkT, p1, g, hph, f2]
        · rw [hN']
      · rw [hI]
        unfold crit
        rw [p0, p1]
        omega
theorem lk_can {r : Nat} {P : List (Nat × Int)} {o : Option Nat} {s : Nat} {x : Int} (hs : s ≤ 8 * r + 1) : (lkB r P o).canGo (lkT r (s, x)) = true ↔ s ≤ 8 * r ∧ (plc r s = 1 → o = none) := by
  have hins : (lkT r (s, x)).ins = (lkC r).getD (plc r s) ins0 := rfl
  have hp : plc r s < 10 := by
    unfold plc
    split
    · omega
    · split <;> omega
  by_cases h1 : s ≤ 8 * r
  · have hph : (lkT r (s, x)).ph = 0 := by show phs r s = 0; unfold phs; rw [if_neg (by omega)]
    have hw : (lkT r (s, x)).wants = if plc r s = 1 then some 0 else none := by
      unfold PTask.wants
      rw [hph, hins, if_neg (by decide)]
      rcases (by omega : plc r s = 0 ∨ plc r s = 1 ∨ plc r s = 2 ∨ plc r s = 3 ∨ plc r s = 4 ∨ plc r s = 5 ∨ plc r s = 6 ∨ plc r s = 7 ∨ plc r s = 8 ∨ plc r s = 9) with e | e | e | e | e | e | e | e | e | e <;> rw [e] <;> rfl
    unfold PB.canGo
    rw [hph, hw]
    by_cases e : plc r s = 1
    · simp [e, h1, PB.free, lkB, List.getD]
    · simp [e, h1, PB.free]
  · have hph : (lkT r (s, x)).ph = 3 := by show phs r s = 3; unfold phs; rw [if_pos (by omega)]
    unfold PB.canGo
    rw [hph]
    simp
    omega
theorem lk_step {r : Nat} (hr : 0 < r) (hr9 : r ≤ 9) {P : List (Nat × Int)} (hn : P.length ≤ 8) {o : Option Nat} (h : Lk r P o) (n : Int) :
    ((∀ q ∈ P, q.1 = 8 * r + 1) ∧ (lkB r P o).step n = lkB r P o) ∨ ∃ P' o', (lkB r P o).step n = lkB r P' o' ∧ Lk r P' o' ∧ P'.length = P.length ∧ lkS P' = lkS P + 1 := by
  have topq : ∀ q ∈ P, q.1 ≤ 8 * r + 1 := fun q hq => by
    obtain ⟨k, hk, rfl⟩ := List.getElem_of_mem hq
    have := h.top k hk
    simpa [List.getD, hk] using this
  unfold PB.step
  by_cases h0 : (lkB r P o).able.length = 0
  · rw [if_pos h0]
    refine .inl ⟨fun q hq => ?_, rfl⟩
    have hnone := able_none (f := (lkB r P o).canGo) (lkB r P o).ts 0 h0
    have key : ∀ q ∈ P, ¬ (q.1 ≤ 8 * r ∧ (plc r q.1 = 1 → o = none)) := fun q hq hc => by
      have := hnone (lkT r q) (List.mem_map_of_mem hq)
      rw [show q = (q.1, q.2) from rfl, (lk_can (topq q hq)).2 hc] at this
      cases this
    have ho : o = none := by
      cases ho : o with
      | none => rfl
      | some k =>
        exfalso
        have hk := h.has k ho
        have hc := (h.own k hk).1 ho
        unfold crit at hc
        refine key _ (getD_mem P (0, 0) hk) ⟨?_, fun e => by omega⟩
        have := h.top k hk
        by_cases e : (P.getD k (0, 0)).1 = 8 * r + 1
        · rw [e, plc_end (by omega)] at hc
          omega
        · omega
    have := key q hq
    have := topq q hq
    by_cases e : q.1 = 8 * r + 1
    · exact e
    · exact absurd ⟨by omega, fun _ => ho⟩ (key q hq)
  · rw [if_neg h0]
    have hmem : (lkB r P o).able.getD ((fromZ n).toNat % (lkB r P o).able.length) 0 ∈ (lkB r P o).able := getD_mem _ _ (Nat.mod_lt _ (by omega))
    generalize (lkB r P o).able.getD ((fromZ n).toNat % (lkB r P o).able.length) 0 = i at hmem
    obtain ⟨_, h2, h3⟩ := ableL_mem (lkB r P o).canGo (lkB r P o).ts 0 i hmem
    have hi : i < P.length := by simpa [lkB] using h2
    rw [Nat.sub_zero, show (lkB r P o).ts.getD i task0 = lkT r (P.getD i (0, 0)) from getD_map (lkT r) P (0, 0) task0 hi] at h3
    obtain ⟨s, x, hq⟩ : ∃ s x, P.getD i (0, 0) = (s, x) := ⟨_, _, rfl⟩
    have ht := h.top i hi
    have hS := fun x' => lkS_set hi x' (P := P)
    rw [hq] at h3 ht hS
    obtain ⟨hs, hf⟩ := (lk_can ht).1 h3
    obtain ⟨x', o', e1, e2⟩ := lk_act hr hr9 hn h hi hq hs hf
    exact .inr ⟨_, o', e1, e2, by simp, hS x'⟩
theorem lkS_full {r : Nat} : ∀ {P : List (Nat × Int)}, (∀ q ∈ P, q.1 = 8 * r + 1) → lkS P = P.length * (8 * r + 1)
  | [], _ => by simp [lkS]
  | q :: P, h => by
    have h1 := lkS_full (P := P) (fun x hx => h x (List.mem_cons_of_mem _ hx))
    have h2 := h q (List.mem_cons_self ..)
    simp [lkS] at h1 ⊢
    rw [h1, h2, Nat.add_mul]
    omega
theorem lkS_le {r : Nat} : ∀ {P : List (Nat × Int)}, (∀ q ∈ P, q.1 ≤ 8 * r + 1) → lkS P ≤ P.length * (8 * r + 1) ∧ (P.length * (8 * r + 1) ≤ lkS P → ∀ q ∈ P, q.1 = 8 * r + 1)
  | [], _ => by simp [lkS]
  | q :: P, h => by
    obtain ⟨h1, h3⟩ := lkS_le (P := P) (fun x hx => h x (List.mem_cons_of_mem _ hx))
    have h2 := h q (List.mem_cons_self ..)
    have e : lkS (q :: P) = q.1 + lkS P := by simp [lkS]
    rw [e, List.length_cons, Nat.add_mul]
    refine ⟨by omega, fun hge x hx => ?_⟩
    rcases List.mem_cons.1 hx with rfl | hx
    · omega
    · exact h3 (by omega) x hx
theorem lkN_full {r : Nat} : ∀ {P : List (Nat × Int)}, (∀ q ∈ P, q.1 = 8 * r + 1) → lkN P = P.length * r
  | [], _ => by simp [lkN]
  | q :: P, h => by
    have h1 := lkN_full (P := P) (fun x hx => h x (List.mem_cons_of_mem _ hx))
    have h2 := h q (List.mem_cons_self ..)
    simp [lkN] at h1 ⊢
    rw [h1, h2, Nat.add_mul]
    omega
theorem lk_run {r : Nat} (hr : 0 < r) (hr9 : r ≤ 9) {n : Nat} (hn : n ≤ 8) : ∀ (l : List Int) (P : List (Nat × Int)) (o : Option Nat), P.length = n → Lk r P o → n * (8 * r + 1) ≤ lkS P + l.length → ∃ P' o', (lkB r P o).run l = lkB r P' o' ∧ P'.length = n ∧ ∀ q ∈ P', q.1 = 8 * r + 1
  | [], P, o, hl, h, hs => by
    refine ⟨P, o, rfl, hl, (lkS_le fun q hq => ?_).2 (by rw [hl]; simpa using hs)⟩
    obtain ⟨k, hk, rfl⟩ := List.getElem_of_mem hq
    have := h.top k hk
    simpa [List.getD, hk] using this
  | p :: l, P, o, hl, h, hs => by
    have er : (lkB r P o).run (p :: l) = ((lkB r P o).step p).run l := rfl
    rw [er]
    rcases lk_step hr hr9 (by omega) h p with ⟨h1, e⟩ | ⟨P', o', e, h2, h3, h4⟩
    · rw [e]
      exact lk_run hr hr9 hn l P o hl h (by rw [lkS_full h1, hl]; omega)
    · rw [e]
      exact lk_run hr hr9 hn l P' o' (by omega) h2 (by rw [h4]; simp at hs; omega)
theorem lk_begins {r : Nat} (hr : 0 < r) (n : Nat) : begins (List.replicate n (lkC r)) [] = lkB r (List.replicate n (0, 0)) none ∧ Lk r (List.replicate n (0, 0)) none := by
  have hf : fresh (lkC r) = lkT r (0, 0) := by
    simp [fresh, PTask.goTo, lkT, plc_zero hr, rgk, phs, lkC]
  have hg : ∀ k, k < n → (List.replicate n ((0, 0) : Nat × Int)).getD k (0, 0) = (0, 0) := fun k hk => by simp [List.getD, hk]
  refine ⟨?_, ⟨fun k hk => ?_, fun k hk => ?_, fun k hk => (by cases hk), fun k hk => ?_⟩⟩
  · simp [begins, lkB, hf, lkN, lkS]
  · rw [hg k (by simpa using hk)]
    simp
  · rw [hg k (by simpa using hk)]
    unfold crit
    rw [plc_zero hr]
    simp
  · rw [hg k (by simpa using hk), plc_zero hr]
    simp
/-- What SchedLocks asks, plainly. -/
theorem lk_all {r n : Nat} (hr : 0 < r) (hr9 : r ≤ 9) (hn : n ≤ 8) {l : List Int} (hl : 700 ≤ l.length) : ∃ B : PB, (begins (List.replicate n (lkC r)) []).run l = B ∧ B.cells = ((n * r : Nat) : Int) :: List.replicate 15 0 ∧ B.steps = n * (8 * r + 1) ∧ B.em = [] ∧ B.states = List.replicate n 2 ∧ B.ts.length = n := by
  obtain ⟨h1, h2⟩ := lk_begins hr n
  have hm : n * (8 * r + 1) ≤ 8 * 73 := Nat.mul_le_mul hn (by omega)
  obtain ⟨P', o', e1, e2, e3⟩ := lk_run hr hr9 hn l _ none (by simp) h2 (by omega)
  refine ⟨_, rfl, ?_⟩
  rw [h1, e1]
  refine ⟨?_, ?_, rfl, ?_, by simpa [lkB] using e2⟩
  · show ((lkN P' : Nat) : Int) :: _ = _
    rw [lkN_full e3, e2]
  · show lkS P' = _
    rw [lkS_full e3, e2]
  · rw [List.eq_replicate_iff]
    refine ⟨by simpa [PB.states, lkB] using e2, fun b hb => ?_⟩
    simp only [PB.states, lkB, List.map_map, List.mem_map] at hb
    obtain ⟨q, hq, rfl⟩ := hb
    have : (lkT r q).ph = 3 := by show phs r q.1 = 3; unfold phs; rw [if_pos (by have := e3 q hq; omega)]
    simp [PB.state, this]
theorem lk_ok {r n : Nat} (hn : n ≤ 8) : allOk (List.replicate n (lkC r)) [] = true := by
  have h : codeOk (lkC r) = true := by simp [codeOk, lkC, insOk, isReg, isSh]
  simp [allOk, h, hn]
end Go.Proofs.Ytehkcgjiimfdjaa
