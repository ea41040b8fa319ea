/- What is seen at a number, plainly. -/
import Derived.Test.YtjoamhcehpjepabQa02
import Derived.Test.YtjoamhcehpjepabQa00
import Derived.Deep.RegionLaw
import Derived.Deep.RegionHeld3
import Derived.BigQuiet
import Derived.Maps.AppendAt
namespace Go.Proofs.Ytjoamhcehpjepab
set_option linter.unusedVariables false
set_option linter.unusedSimpArgs false
abbrev It17 := ByteArray × ByteArray
def uc (a b : ByteArray) : Int := scmp a.toList b.toList
theorem ba_ext17 {a b : ByteArray} (h : a.data.toList = b.data.toList) : a = b := by
  obtain ⟨a⟩ := a
  obtain ⟨b⟩ := b
  congr 1
  exact Array.toList_inj.1 h
theorem uc_three (a b : ByteArray) : (uc a b = -1) ∨ (uc a b = 0 ∧ a = b) ∨ (uc a b = 1) := by
  unfold uc
  rcases scmp_spec a.toList b.toList with ⟨h, _⟩ | ⟨h, e⟩ | ⟨h, _⟩
  · exact .inl h
  · exact .inr (.inl ⟨h, ba_ext17 (by simpa [ByteArray.toList_eq] using e)⟩)
  · exact .inr (.inr h)
theorem uc_self (a : ByteArray) : uc a a = 0 := scmp_self _
theorem uc_turn (a b : ByteArray) : uc b a = -uc a b := scmp_turn _ _
theorem uc_zero {a b : ByteArray} (h : uc a b = 0) : a = b := by
  rcases uc_three a b with e | ⟨_, e⟩ | e
  · omega
  · exact e
  · omega
theorem uc_trans {a b c : ByteArray} (h : uc a b < 0) (k : uc b c < 0) : uc a c < 0 := by
  have h1 : uc a b = -1 := by rcases uc_three a b with e | ⟨e, _⟩ | e <;> omega
  have h2 : uc b c = -1 := by rcases uc_three b c with e | ⟨e, _⟩ | e <;> omega
  have := (scmp_row a.toList b.toList c.toList).2.2.1 h1 h2
  unfold uc
  omega
theorem uc_le_lt {a b c : ByteArray} (h : uc a b ≤ 0) (k : uc b c < 0) : uc a c < 0 := by
  by_cases e : uc a b = 0
  · rw [uc_zero e]; exact k
  · exact uc_trans (by omega) k
theorem uc_lt_le {a b c : ByteArray} (h : uc a b < 0) (k : uc b c ≤ 0) : uc a c < 0 := by
  by_cases e : uc b c = 0
  · rw [← uc_zero e]; exact h
  · exact uc_trans h (by omega)
/-- Users that do not fall. -/
def SortU (l : List KV16) : Prop := l.Pairwise fun a b => uc a.1.user b.1.user ≤ 0
theorem uc_of_cmp {a b : IK} (h : a.cmp b ≤ 0) : uc a.user b.user ≤ 0 := by
  unfold IK.cmp at h
  unfold uc
  rcases kcmp_spec a.user.toList b.user.toList (a.seq : Int) (b.seq : Int) a.kind b.kind with ⟨_, e⟩ | ⟨e, _⟩ | ⟨e, _⟩ <;> omega
theorem all_sortU {L : List (List KV16)} (hL : RiseL L) : SortU (allL L) := by
  unfold SortU allL
  rw [List.pairwise_map]
  refine (all_rises hL).imp fun {p q} h => uc_of_cmp ?_
  have : cmpL L p q ≤ 0 := by rcases h with h | ⟨h, _⟩ <;> omega
  exact this
theorem rise_sortU {l : List KV16} (h : l.Pairwise fun a b => a.1.cmp b.1 < 0) : SortU l := h.imp fun {a b} h => uc_of_cmp (by omega)
/-- The first entry of a user that is not above a number. -/
def lget17 (l : List KV16) (u : ByteArray) (s : Nat) : Option KV16 := l.find? fun e => decide (e.1.user = u ∧ e.1.seq ≤ s)
/-- A step: what was an entry's user done, what is told. -/
def stepSn (s : Nat) (prev : Option KV16) (st : Bool × List It17) (e : KV16) : Bool × List It17 :=
  let d := if (prev.any fun q => decide (q.1.user ≠ e.1.user)) = true then false else st.1
  if d = true ∨ s < e.1.seq then (d, st.2) else (true, if e.1.kind = 1 then st.2 ++ [(e.1.user, e.2)] else st.2)
def seenS (s : Nat) (l : List KV16) : Nat → Bool × List It17
  | 0 => (false, [])
  | i + 1 => match l[i]? with
    | none => seenS s l i
    | some e => stepSn s (if i = 0 then none else l[i - 1]?) (seenS s l i) e
/-- What is seen. -/
def seenL (s : Nat) (l : List KV16) : List It17 := (seenS s l l.length).2
structure SeenI (s : Nat) (l : List KV16) (i : Nat) (d : Bool) (out : List It17) : Prop where
  mem : ∀ u x, (u, x) ∈ out ↔ ∃ e, lget17 (l.take i) u s = some e ∧ e.1.kind = 1 ∧ e.2 = x
  rise : out.Pairwise fun a b => uc a.1 b.1 < 0
  dn : d = true ↔ ∃ e, 0 < i ∧ l[i - 1]? = some e ∧ lget17 (l.take i) e.1.user s ≠ none
theorem lget_take_succ {l : List KV16} {i : Nat} {e : KV16} (he : l[i]? = some e) (u : ByteArray) (s : Nat) : lget17 (l.take (i + 1)) u s = (lget17 (l.take i) u s).or (if e.1.user = u ∧ e.1.seq ≤ s then some e else none) := by
  obtain ⟨hi, rfl⟩ := List.getElem?_eq_some_iff.1 he
  unfold lget17
  rw [List.take_add_one, List.find?_append]
  simp only [he, Option.toList_some]
  congr 1
  by_cases h : l[i].1.user = u ∧ l[i].1.seq ≤ s
  · rw [if_pos h, List.find?_cons_of_pos (by simpa using h)]
  · rw [if_neg h, List.find?_cons_of_neg (by simpa using h)]
    rfl
theorem lget_user {l : List KV16} {u : ByteArray} {s : Nat} {e : KV16} (h : lget17 l u s = some e) : e.1.user = u ∧ e.1.seq ≤ s ∧ e ∈ l := by
  have h1 := List.find?_some h
  have h2 := List.mem_of_find?_eq_some h
  simp only [decide_eq_true_eq] at h1
  exact ⟨h1.1, h1.2, h2⟩
/-- Of the user who comes, was one found? Then the one ahead is his. -/
theorem sort_prev {l : List KV16} (hs : SortU l) {i : Nat} {e : KV16} (he : l[i]? = some e) {s : Nat} (h : lget17 (l.take i) e.1.user s ≠ none) : ∃ q, 0 < i ∧ l[i - 1]? = some q ∧ q.1.user = e.1.user := by
  obtain ⟨x, hx⟩ := Option.ne_none_iff_exists'.1 h
  obtain ⟨hu, _, hm⟩ := lget_user hx
  obtain ⟨k, hk, rfl⟩ := List.getElem_of_mem hm
  rw [List.length_take] at hk
  obtain ⟨hi, rfl⟩ := List.getElem?_eq_some_iff.1 he
  rw [List.getElem_take] at hu
  refine ⟨l[i - 1], by omega, List.getElem?_eq_getElem _, ?_⟩
  have a1 : uc l[k].1.user l[i - 1].1.user ≤ 0 := by
    by_cases e : k = i - 1
    · subst e; rw [uc_self]; omega
    · exact List.pairwise_iff_getElem.1 hs k (i - 1) (by omega) (by omega) (by omega)
  have a2 : uc l[i - 1].1.user l[i].1.user ≤ 0 := List.pairwise_iff_getElem.1 hs (i - 1) i (by omega) hi (by omega)
  rw [hu] at a1
  have a3 := uc_turn l[i].1.user l[i - 1].1.user
  exact uc_zero (by omega)
theorem seen_inv {s : Nat} {l : List KV16} (hs : SortU l) : ∀ i, i ≤ l.length → SeenI s l i (seenS s l i).1 (seenS s l i).2
  | 0, _ => ⟨fun u x => by
      constructor
      · intro h; cases h
      · rintro ⟨e, h, _⟩; simp [lget17] at h, List.Pairwise.nil, by
      constructor
      · intro h; cases h
      · rintro ⟨e, h, _⟩; omega⟩
  | i + 1, hi => by
    have ih := seen_inv (s := s) hs i (by omega)
    have he : l[i]? = some l[i] := List.getElem?_eq_getElem (by omega)
    have hst : seenS s l (i + 1) = stepSn s (if i = 0 then none else l[i - 1]?) (seenS s l i) l[i] := by
      show (match l[i]? with | none => _ | some e => _) = _
      rw [he]
    rw [hst]
    generalize l[i] = e at he
    generalize seenS s l i = st at ih ⊢
    obtain ⟨d, out⟩ := st
    dsimp only at ih
    have hd : (if ((if i = 0 then none else l[i - 1]?).any fun q => decide (q.1.user ≠ e.1.user)) = true then false else d) = true ↔ lget17 (l.take i) e.1.user s ≠ none := by
      constructor
      · intro h
        by_cases h1 : ((if i = 0 then none else l[i - 1]?).any fun q => decide (q.1.user ≠ e.1.user)) = true
        · rw [if_pos h1] at h; cases h
        · rw [if_neg h1] at h
          obtain ⟨q, hi0, hq, hl⟩ := ih.dn.1 h
          rw [if_neg (by omega), hq] at h1
          simp only [Option.any_some, decide_eq_true_eq, ne_eq, Decidable.not_not] at h1
          rw [← h1]; exact hl
      · intro h
        obtain ⟨q, hi0, hq, hu⟩ := sort_prev hs he h
        have h1 : ¬ ((if i = 0 then none else l[i - 1]?).any fun q => decide (q.1.user ≠ e.1.user)) = true := by
          rw [if_neg (by omega), hq]
          simp [hu]
        rw [if_neg h1]
        exact ih.dn.2 ⟨q, hi0, hq, by rw [hu]; exact h⟩
    unfold stepSn
    dsimp only
    generalize (if ((if i = 0 then none else l[i - 1]?).any fun q => decide (q.1.user ≠ e.1.user)) = true then false else d) = d' at hd ⊢
    have hpi : l[i + 1 - 1]? = some e := he
    by_cases hc : d' = true ∨ s < e.1.seq
    · rw [if_pos hc]
      have hsame : ∀ u, lget17 (l.take (i + 1)) u s = lget17 (l.take i) u s := fun u => by
        rw [lget_take_succ he]
        by_cases hu : e.1.user = u ∧ e.1.seq ≤ s
        · have hdd : d' = true := by rcases hc with h | h; exact h; omega
          have := hd.1 hdd
          rw [hu.1] at this
          obtain ⟨x, hx⟩ := Option.ne_none_iff_exists'.1 this
          rw [hx]; rfl
        · rw [if_neg hu]; simp
      refine ⟨fun u x => by rw [hsame]; exact ih.mem u x, ih.rise, ?_⟩
      dsimp only
      rw [hd]
      constructor
      · intro h; exact ⟨e, by omega, hpi, by rw [hsame]; exact h⟩
      · rintro ⟨x, _, hx, hl⟩
        rw [hpi] at hx
        obtain rfl := Option.some.inj hx
        rw [hsame] at hl
        exact hl
    · rw [if_neg hc]
      have hd0 : ¬ d' = true := fun h => hc (.inl h)
      have hsq : e.1.seq ≤ s := by
        apply Classical.byContradiction
        intro h; exact hc (.inr (by omega))
      have hnone : lget17 (l.take i) e.1.user s = none := by
        apply Classical.byContradiction
        intro h; exact hd0 (hd.2 h)
      have hnew : lget17 (l.take (i + 1)) e.1.user s = some e := by
        rw [lget_take_succ he, hnone, if_pos ⟨rfl, hsq⟩]; rfl
      have hold : ∀ u, u ≠ e.1.user → lget17 (l.take (i + 1)) u s = lget17 (l.take i) u s := fun u hu => by
        rw [lget_take_succ he, if_neg (fun h => hu h.1.symm)]; simp
      refine ⟨fun u x => ?_, ?_, ?_⟩
      · dsimp only
        by_cases hu : u = e.1.user
        · subst hu
          rw [hnew]
          have hno : ¬ (e.1.user, x) ∈ out := fun h => by
            obtain ⟨y, hy, _⟩ := (ih.mem _ _).1 h
            rw [hnone] at hy; cases hy
          by_cases hk : e.1.kind = 1
          · rw [if_pos hk, List.mem_append]
            constructor
            · rintro (h | h)
              · exact absurd h hno
              · simp only [List.mem_singleton, Prod.mk.injEq, true_and] at h
                exact ⟨e, rfl, hk, h.symm⟩
            · rintro ⟨y, hy, _, hx⟩
              obtain rfl := Option.some.inj hy
              right; simp [hx]
          · rw [if_neg hk]
            constructor
            · intro h; exact absurd h hno
            · rintro ⟨y, hy, hy1, _⟩
              obtain rfl := Option.some.inj hy
              exact absurd hy1 hk
        · rw [hold u hu, ← ih.mem]
          by_cases hk : e.1.kind = 1
          · rw [if_pos hk, List.mem_append]
            constructor
            · rintro (h | h)
              · exact h
              · simp only [List.mem_singleton, Prod.mk.injEq] at h
                exact absurd h.1 hu
            · exact .inl
          · rw [if_neg hk]
      · dsimp only
        by_cases hk : e.1.kind = 1
        · rw [if_pos hk]
          refine List.pairwise_append.2 ⟨ih.rise, List.pairwise_singleton _ _, fun a ha b hb => ?_⟩
          obtain rfl := List.mem_singleton.1 hb
          obtain ⟨u, x⟩ := a
          obtain ⟨y, hy, _⟩ := (ih.mem u x).1 ha
          obtain ⟨hyu, _, hym⟩ := lget_user hy
          obtain ⟨k, hkk, rfl⟩ := List.getElem_of_mem hym
          rw [List.length_take] at hkk
          rw [List.getElem_take] at hyu
          obtain ⟨hil, hie⟩ := List.getElem?_eq_some_iff.1 he
          have h1 : uc l[k].1.user l[i].1.user ≤ 0 := List.pairwise_iff_getElem.1 hs k i (by omega) hil (by omega)
          rw [hie, hyu] at h1
          show uc u e.1.user < 0
          by_cases hz : uc u e.1.user = 0
          · have := uc_zero hz
            subst this
            rw [hnone] at hy; cases hy
          · omega
        · rw [if_neg hk]; exact ih.rise
      · dsimp only
        refine ⟨fun _ => ⟨e, by omega, hpi, by rw [hnew]; simp⟩, fun _ => rfl⟩
theorem mem_seen {s : Nat} {l : List KV16} (hs : SortU l) (u x : ByteArray) : (u, x) ∈ seenL s l ↔ ∃ e, lget17 l u s = some e ∧ e.1.kind = 1 ∧ e.2 = x := by
  have := (seen_inv (s := s) hs l.length (Nat.le_refl _)).mem u x
  rw [List.take_length] at this
  exact this
theorem rise_seen {s : Nat} {l : List KV16} (hs : SortU l) : (seenL s l).Pairwise fun a b => uc a.1 b.1 < 0 := (seen_inv (s := s) hs l.length (Nat.le_refl _)).rise
/-- Rows whose keys rise are told by what is in them. -/
theorem rise_ext17 : ∀ {l m : List It17}, l.Pairwise (fun a b => uc a.1 b.1 < 0) → m.Pairwise (fun a b => uc a.1 b.1 < 0) → (∀ x, x ∈ l ↔ x ∈ m) → l = m
  | [], [], _, _, _ => rfl
  | [], y :: m, _, _, h => by have := (h y).2 (by simp); cases this
  | x :: l, [], _, _, h => by have := (h x).1 (by simp); cases this
  | x :: l, y :: m, hl, hm, h => by
    obtain ⟨l1, l2⟩ := List.pairwise_cons.1 hl
    obtain ⟨m1, m2⟩ := List.pairwise_cons.1 hm
    have hxy : x = y := by
      have hx := (h x).1 (by simp)
      have hy := (h y).2 (by simp)
      rcases List.mem_cons.1 hx with e | e
      · exact e
      · rcases List.mem_cons.1 hy with e2 | e2
        · exact e2.symm
        · have a := m1 x e
          have b := l1 y e2
          have c := uc_turn x.1 y.1
          omega
    subst hxy
    congr 1
    refine rise_ext17 l2 m2 fun z => ?_
    constructor
    · intro hz
      have := (h z).1 (by simp [hz])
      rcases List.mem_cons.1 this with e | e
      · subst e
        have := l1 z hz
        rw [uc_self] at this; omega
      · exact e
    · intro hz
      have := (h z).2 (by simp [hz])
      rcases List.mem_cons.1 this with e | e
      · subst e
        have := m1 z hz
        rw [uc_self] at this; omega
      · exact e
theorem step_len (s : Nat) (p : Option KV16) (st : Bool × List It17) (e : KV16) : (stepSn s p st e).2.length ≤ st.2.length + 1 := by
  unfold stepSn
  generalize (if (p.any fun q => decide (q.1.user ≠ e.1.user)) = true then false else st.1) = d
  show (if d = true ∨ s < e.1.seq then (d, st.2) else (true, if e.1.kind = 1 then st.2 ++ [(e.1.user, e.2)] else st.2)).2.length ≤ _
  by_cases h : d = true ∨ s < e.1.seq
  · rw [if_pos h]; exact Nat.le_succ _
  · rw [if_neg h]
    by_cases hk : e.1.kind = 1
    · simp [hk]
    · simp [hk]
theorem seen_len {s : Nat} {l : List KV16} : ∀ i, (seenS s l i).2.length ≤ i
  | 0 => Nat.le_refl _
  | i + 1 => by
    have ih := seen_len (s := s) (l := l) i
    show ((match l[i]? with | none => _ | some e => _ : Bool × List It17)).2.length ≤ _
    cases l[i]? with
    | none => exact Nat.le_succ_of_le ih
    | some e => exact Nat.le_trans (step_len _ _ _ e) (by omega)
theorem seen_le (s : Nat) (l : List KV16) : (seenL s l).length ≤ l.length := seen_len _
end Go.Proofs.Ytjoamhcehpjepab
/- The library's heap, plainly: what a row is under way of going down, or up, at one place. -/
namespace Go.Proofs.Ytjoamhcehpjepab
set_option linter.unusedVariables false
section
variable {α : Type} (lt : α → α → Prop)
/-- One of the two places below another. -/
def Kid (p j : Nat) : Prop := j = 2 * p + 1 ∨ j = 2 * p + 2
/-- From the place s on, nothing lies below what is not ahead of it. -/
def HeapF (n s : Nat) (f : Nat → α) : Prop := ∀ p, s ≤ p → ∀ j, Kid p j → j < n → ¬ lt (f j) (f p)
structure DInv (n i0 i : Nat) (f : Nat → α) : Prop where
  ge : i0 ≤ i
  edge : ∀ p, i0 ≤ p → p ≠ i → ∀ j, Kid p j → j < n → ¬ lt (f j) (f p)
  up : ∀ q, i0 ≤ q → Kid q i → ∀ j, Kid i j → j < n → ¬ lt (f j) (f q)
structure UInv (n j : Nat) (f : Nat → α) : Prop where
  edge : ∀ p k, Kid p k → k < n → k ≠ j → ¬ lt (f k) (f p)
  down : ∀ q, Kid q j → ∀ k, Kid j k → k < n → ¬ lt (f k) (f q)
def sw (f : Nat → α) (i j : Nat) : Nat → α := fun k => if k = i then f j else if k = j then f i else f k
/-- What the order must be. -/
structure Ord16 : Prop where
  asym : ∀ a b, lt a b → ¬ lt b a
  trans : ∀ a b c, ¬ lt b a → ¬ lt c b → ¬ lt c a
variable {lt}
variable {n i0 i j : Nat} {f : Nat → α}
theorem DInv.start (h : HeapF lt n (i0 + 1) f) : DInv lt n i0 i0 f := ⟨Nat.le_refl _, fun p hp hne j hj hn => h p (by omega) j hj hn, fun q hq hk => by rcases hk with e | e <;> omega⟩
theorem DInv.stop (h : DInv lt n i0 i f) (hno : ∀ j, Kid i j → j < n → ¬ lt (f j) (f i)) : HeapF lt n i0 f := fun p hp j hj hn => by
  by_cases e : p = i
  · subst e; exact hno j hj hn
  · exact h.edge p hp e j hj hn
theorem sw_left : sw f i j i = f j := if_pos rfl
theorem sw_right : sw f i j j = f i := by
  unfold sw
  by_cases e : j = i
  · subst e; rw [if_pos rfl]
  · rw [if_neg e, if_pos rfl]
theorem sw_other {k : Nat} (h1 : k ≠ i) (h2 : k ≠ j) : sw f i j k = f k := by
  unfold sw; rw [if_neg h1, if_neg h2]
theorem DInv.step (ho : Ord16 lt) (h : DInv lt n i0 i f) (hk : Kid i j) (hj : j < n) (hlt : lt (f j) (f i)) (hsib : ∀ k, Kid i k → k < n → ¬ lt (f k) (f j)) : DInv lt n i0 j (sw f i j) := by
  have hij : i < j := by rcases hk with e | e <;> omega
  have hge := h.ge
  refine ⟨by omega, fun p hp hne k hpk hkn => ?_, fun q hq hqj k hjk hkn => ?_⟩
  · by_cases ep : p = i
    · subst ep
      rw [sw_left]
      by_cases ek : k = j
      · subst ek; rw [sw_right]; exact ho.asym _ _ hlt
      · rw [sw_other (by rcases hpk with e | e <;> omega) ek]; exact hsib k hpk hkn
    · rw [sw_other (k := p) ep hne]
      by_cases ek : k = i
      · subst ek; rw [sw_left]; exact h.up p hp hpk j hk hj
      · by_cases ekj : k = j
        · subst ekj; exfalso; rcases hk with e | e <;> rcases hpk with e' | e' <;> omega
        · rw [sw_other ek ekj]; exact h.edge p hp ep k hpk hkn
  · have eq : q = i := by rcases hk with e | e <;> rcases hqj with e' | e' <;> omega
    subst eq
    rw [sw_left, sw_other (by rcases hjk with e | e <;> omega) (by rcases hjk with e | e <;> omega)]
    exact h.edge j (by omega) (by omega) k hjk hkn
theorem UInv.stop (h : UInv lt n j f) (hno : ∀ p, Kid p j → ¬ lt (f j) (f p)) : HeapF lt n 0 f := fun p _ k hk hn => by
  by_cases e : k = j
  · subst e; exact hno p hk
  · exact h.edge p k hk hn e
theorem UInv.step (ho : Ord16 lt) (h : UInv lt n j f) (hk : Kid i j) (hj : j < n) (hlt : lt (f j) (f i)) : UInv lt n i (sw f i j) := by
  have hij : i < j := by rcases hk with e | e <;> omega
  refine ⟨fun p k hpk hkn hne => ?_, fun q hqi k hik hkn => ?_⟩
  · by_cases ek : k = j
    · subst ek
      have ep : p = i := by rcases hk with e | e <;> rcases hpk with e' | e' <;> omega
      subst ep
      rw [sw_left, sw_right]
      exact ho.asym _ _ hlt
    · rw [sw_other hne ek]
      by_cases ep : p = i
      · subst ep
        rw [sw_left]
        exact ho.trans _ _ _ (ho.asym _ _ hlt) (h.edge _ k hpk hkn ek)
      · by_cases epj : p = j
        · subst epj; rw [sw_right]; exact h.down i hk k hpk hkn
        · rw [sw_other ep epj]; exact h.edge p k hpk hkn ek
  · have hq : q < i := by rcases hqi with e | e <;> omega
    rw [sw_other (k := q) (by omega) (by omega)]
    have h1 := h.edge q i hqi (by omega) (by omega)
    by_cases ek : k = j
    · subst ek; rw [sw_right]; exact h1
    · rw [sw_other (by rcases hik with e | e <;> omega) ek]
      exact ho.trans _ _ _ h1 (h.edge i k hik hkn ek)
/-- What stands on top is behind none. -/
theorem HeapF.top (ho : Ord16 lt) (h : HeapF lt n 0 f) : ∀ k, k < n → ¬ lt (f k) (f 0) := fun k => by
  induction k using Nat.strongRecOn with
  | _ k ih =>
    intro hk
    by_cases e : k = 0
    · subst e; exact fun x => ho.asym _ _ x x
    · have h1 : Kid ((k - 1) / 2) k := by unfold Kid; omega
      exact ho.trans _ _ _ (ih _ (by omega) (by omega)) (h _ (Nat.zero_le _) k h1 hk)
/-- Behind a change of what stands on top, or of what stood at the end. -/
theorem HeapF.from1 {g : Nat → α} {m : Nat} (h : HeapF lt n 0 f) (hm : m ≤ n) (hg : ∀ k, 0 < k → k < m → g k = f k) : HeapF lt m 1 g := fun p hp j hj hn => by
  have h1 : 0 < j := by rcases hj with e | e <;> omega
  have h2 : p < m := by rcases hj with e | e <;> omega
  rw [hg j h1 hn, hg p (by omega) h2]
  exact h p (Nat.zero_le _) j hj (by omega)
/-- Of half of them on, there is nothing below. -/
theorem HeapF.half (h : n / 2 ≤ i0) : HeapF lt n i0 f := fun p hp j hj hn => by rcases hj with e | e <;> omega
theorem HeapF.push {g : Nat → α} (h : HeapF lt n 0 f) (hg : ∀ k, k < n → g k = f k) : UInv lt (n + 1) n g := ⟨fun p k hpk hkn hne => by
  have hk : k < n := by omega
  have hp : p < n := by rcases hpk with e | e <;> omega
  rw [hg k hk, hg p hp]
  exact h p (Nat.zero_le _) k hpk hk, fun q hq k hk hkn => by rcases hk with e | e <;> omega⟩
/-- Two of a row changed over. -/
def swL (d : α) (l : List α) (i j : Nat) : List α := (l.set i (l.getD j d)).set j (l.getD i d)
theorem swL_len (d : α) (l : List α) (i j : Nat) : (swL d l i j).length = l.length := by simp [swL]
theorem swL_get (d : α) (l : List α) {i j : Nat} (hi : i < l.length) (hj : j < l.length) (k : Nat) : (swL d l i j).getD k d = sw (fun k => l.getD k d) i j k := by
  unfold swL sw
  by_cases e2 : k = j
  · subst e2
    by_cases e1 : k = i
    · subst e1; simp [List.getD, hj]
    · simp [List.getD, hj, e1]
  · by_cases e1 : k = i
    · subst e1; simp [List.getD, hi, Ne.symm e2]
    · simp [List.getD, e1, e2, Ne.symm e2, Ne.symm e1]
theorem swL_perm (d : α) (l : List α) {i j : Nat} (hi : i < l.length) (hj : j < l.length) : (swL d l i j).Perm l := by
  have h := (List.set_set_perm hi hj : ((l.set i l[j]).set j l[i]).Perm l)
  unfold swL
  simpa [List.getD, hi, hj] using h
end
end Go.Proofs.Ytjoamhcehpjepab
/- The contract of the document's own Compare. -/
namespace Go.Proofs.Ytjoamhcehpjepab
open Go.RowKit

end Go.Proofs.Ytjoamhcehpjepab
/- The contract of the document's own Rises; keys of a row, read for a call. -/
namespace Go.Proofs.Ytjoamhcehpjepab
open Go.RowKit
set_option linter.unusedVariables false
set_option linter.unusedSimpArgs false
/-- A row that rises. -/
def RiseK (l : List KV) : Prop := l.Pairwise fun a b => a.1.cmp b.1 < 0
instance (l : List KV) : Decidable (RiseK l) := inferInstanceAs (Decidable (List.Pairwise _ _))
theorem rise_of {l : List KV} (h : ∀ j (hj : j + 1 < l.length), l[j].1.cmp l[j + 1].1 < 0) : RiseK l := by
  refine List.pairwise_iff_getElem.2 fun i j hi hj hij => ?_
  induction j with
  | zero => omega
  | succ j ih =>
    by_cases e : i = j
    · subst e; exact h i hj
    · exact IK.cmp_trans (ih (by omega) (by omega)) (h j hj)
theorem rise_at {l : List KV} (h : RiseK l) (j : Nat) (hj : j + 1 < l.length) : l[j].1.cmp l[j + 1].1 < 0 := List.pairwise_iff_getElem.1 h j (j + 1) (by omega) hj (by omega)
/-- Where the entries of a row lie, in every world that has the row. -/
theorem KsAt.spots {w : World} {a : Option Addr} {n c : Nat} {l : List KV} (h : KsAt w a n c l) (hp : 0 < n) : ∃ b off, (∀ i, i < n → ∀ W : World, (Instr.indexAt 30 (.slice a n c) (.int .i64 (i : Int))).run Try.prog W = .ok (.pointer (some ⟨b, off + i * 4, none⟩)) W) ∧ b < w.heap.size ∧
    ∀ W, Below w.heap.size w W → ∀ k (hk : k < l.length), W.cell? ⟨b, off + k * 4, none⟩ = some (.string l[k].1.user) ∧ W.cell? ⟨b, off + k * 4 + 1, none⟩ = some (.int .u64 (l[k].1.seq : Int)) ∧ W.cell? ⟨b, off + k * 4 + 2, none⟩ = some (.int .i64 l[k].1.kind) ∧ W.cell? ⟨b, off + k * 4 + 3, none⟩ = some (.string l[k].2) := by
  obtain ⟨b, off, ha, hc⟩ := h.cells4 hp
  have hs := h.size
  have hb : b < w.heap.size := World.block_lt_of_cell? w _ (hc 0 (by omega)).1
  refine ⟨b, off, fun i hi W => idxKV W ha hi, hb, fun W hW k hk => ?_⟩
  obtain ⟨h0, h1, h2, h3⟩ := hc k hk
  exact ⟨by rw [hW.cell hb]; exact h0, by rw [hW.cell hb]; exact h1, by rw [hW.cell hb]; exact h2, by rw [hW.cell hb]; exact h3⟩
end Go.Proofs.Ytjoamhcehpjepab
/- Lists of rows of entries in memory; a row of numbers; an entry onto a row in a region that draws. -/
namespace Go.Proofs.Ytjoamhcehpjepab
open Go.RowKit
set_option linter.unusedVariables false
set_option linter.unusedSimpArgs false
def rowL (L : List (List KV)) (i : Nat) : List KV := L.getD i []
/-- The slice value reads as rows of entries. -/
structure LsAt (w : World) (a : Option Addr) (n c : Nat) (L : List (List KV)) : Prop where
  size : L.length = n
  le : n ≤ c
  max : c ≤ maxLen
  bare : a = none → c = 0
  here : 0 < n → ∃ b off, a = some ⟨b, off, none⟩ ∧ ∀ i, i < n → ∃ ai ci, w.cell? ⟨b, off + i, none⟩ = some (.slice ai (rowL L i).length ci) ∧ KsAt w ai (rowL L i).length ci (rowL L i) ∧ (ai = none → ci = 0)
theorem LsAt.below {w w' : World} {a : Option Addr} {n c : Nat} {L : List (List KV)} (h : LsAt w a n c L) (hb : Below w.heap.size w w') : LsAt w' a n c L := ⟨h.size, h.le, h.max, h.bare, fun hp => by
  obtain ⟨b, off, ha, hc⟩ := h.here hp
  refine ⟨b, off, ha, fun i hi => ?_⟩
  obtain ⟨ai, ci, h1, h2, h3⟩ := hc i hi
  exact ⟨ai, ci, by rw [hb.cell (World.block_lt_of_cell? w _ h1)]; exact h1, h2.below hb, h3⟩⟩
theorem LsAt.nil (w : World) : LsAt w none 0 0 [] := ⟨rfl, Nat.le_refl _, Nat.zero_le _, fun _ => rfl, fun h => absurd h (Nat.lt_irrefl _)⟩
set_option maxRecDepth 100000 in
theorem idxL (W : World) {b off n c i : Nat} (hi : i < n) : (Instr.indexAt 22 (.slice (some ⟨b, off, none⟩) n c) (.int .i64 (i : Int))).run Try.prog W = .ok (.pointer (some ⟨b, off + i, none⟩)) W := by
  have h1 : (0 : Int) ≤ (i : Int) ∧ (i : Int) < (n : Int) := by omega
  have hsz : (sizeOf (Try.prog.elem 22)).run Try.prog W = .ok 1 W := by kernel_rfl
  rw [run_indexAt_slice (P := Try.prog) (h := (by kernel_rfl : Try.prog.underlying 22 = some (.slice (Try.prog.elem 22)))), if_pos h1, hsz]
  simp [Result.andThen, Addr.add_lit]
/-- Where the rows lie, in every world that has them. -/
theorem LsAt.spots {w : World} {a : Option Addr} {n c : Nat} {L : List (List KV)} (h : LsAt w a n c L) (hp : 0 < n) : ∃ b off, (∀ i, i < n → ∀ W : World, (Instr.indexAt 22 (.slice a n c) (.int .i64 (i : Int))).run Try.prog W = .ok (.pointer (some ⟨b, off + i, none⟩)) W) ∧ b < w.heap.size ∧
    ∀ i, i < n → ∃ ai ci, (∀ W, Below w.heap.size w W → W.cell? ⟨b, off + i, none⟩ = some (.slice ai (rowL L i).length ci)) ∧ KsAt w ai (rowL L i).length ci (rowL L i) ∧ (ai = none → ci = 0) := by
  obtain ⟨b, off, ha, hc⟩ := h.here hp
  subst ha
  have hb : b < w.heap.size := by
    obtain ⟨_, _, h0, _⟩ := hc 0 hp
    exact World.block_lt_of_cell? w _ h0
  refine ⟨b, off, fun i hi W => idxL W hi, hb, fun i hi => ?_⟩
  obtain ⟨ai, ci, h1, h2⟩ := hc i hi
  exact ⟨ai, ci, fun W hW => by rw [hW.cell hb]; exact h1, h2⟩
/-- A row of numbers, made by make. -/
def atA (v : Nat → Nat) (n : Nat) : Array Value := ((List.range n).map fun i => Value.int .i64 (v i : Int)).toArray
theorem atA_get (v : Nat → Nat) {n i : Nat} (hi : i < n) : (atA v n)[i]? = some (.int .i64 (v i : Int)) := by simp [atA, hi]
theorem atA_set (v : Nat → Nat) (n b : Nat) : (atA v n).setIfInBounds b (.int .i64 ((v b + 1 : Nat) : Int)) = atA (upV v b) n := by
  apply Array.ext_getElem?
  intro i
  rw [Array.getElem?_setIfInBounds]
  by_cases hi : i < n
  · rw [atA_get _ hi]
    by_cases e : b = i
    · subst e
      rw [if_pos rfl, if_pos (by simp [atA]; exact hi), atA_get _ hi]
      simp [upV]
    · rw [if_neg e, atA_get _ hi]
      simp [upV, Ne.symm e]
  · have h1 : (atA (upV v b) n)[i]? = none := Array.getElem?_eq_none (by simp [atA]; omega)
    have h2 : (atA v n)[i]? = none := Array.getElem?_eq_none (by simp [atA]; omega)
    rw [h1, h2]
    by_cases e : b = i
    · rw [if_pos e, if_neg (by simp [atA]; omega)]
    · rw [if_neg e]
/-- Blocks that hold no entries stay. -/
def OthK (W W' : World) : Prop := ∀ k, k < W.heap.size → tag W k ≠ some TKV → W'.heap[k]? = W.heap[k]?
theorem othk_push {W W' : World} {B : Nat} {a : Option Addr} {n c : Nat} {l : List KV} (h : OwnK W B a n c l) (o : Obj) (hg : (W.alloc o).grownBy W' (blkOf a)) : OthK W W' := fun k hk ht => by
  rw [hg.block k (by simp; omega) (fun e => ht (h.tag e.symm))]
  exact Below.heap_alloc W o k hk
theorem Box.othk {W W' : World} {p : Nat} {t : TypeId} {arr : Array Value} (h : Box W p t arr) (hk : OthK W W') (ht : t ≠ TKV) : Box W' p t arr := h.kept (hk p h.lt (by rw [h.tag]; intro e; exact ht (Option.some.inj e)))
theorem step_pushE {ops : Array Oper} {o : Oper} {a : Act} {K : Act → World → Prop} {Q : Exit → Act → World → Prop} {E : Prop} (W : World) (hgd : o.guard = none) (s x : Operand)
    (ho : o.op = .call { callee := .builtin .append, args := #[s, x], argTypes := #[30, 30] })
    (B : Nat) (a1 : Option Addr) (n1 c1 : Nat) (l : List KV) (hs : a.eval s = .slice a1 n1 c1) (hown : OwnK W B a1 n1 c1 l)
    (v : KV) (cv : Array Value) (hcv : cv.toList = kvc v) (g : Nat) (hg : g = W.heap.size) (hx : a.eval x = .slice (some ⟨g, 0, none⟩) 1 1)
    (hb : n1 + 1 ≤ 2000000000000) (hB : B ≤ W.heap.size)
    (h : ∀ a' c' w', OwnK w' B a' (n1 + 1) c' (l ++ [v]) → Below B W w' → (W.alloc (.cells cv TKV)).grownBy w' (blkOf a1) → K (a.put o.dst (.slice a' (n1 + 1) c')) w') :
    if Region.wanted o (yielded ops a.tmps) = true then Oper.wp Try.prog o a (W.alloc (.cells cv TKV)) K Q else E := by
  subst hg
  have hw : Region.wanted o (yielded ops a.tmps) = true := by simp [Region.wanted, hgd]
  rw [if_pos hw]
  obtain ⟨i, hi, hz0, hz1, hz2⟩ := info_parts infoKV
  have hl := hown.size
  have hown2 := hown.alloc (.cells cv TKV)
  have hlt : ∀ k, (Value.slice a1 n1 c1).ownBlock = some k → B ≤ k := fun k hk => (hown.row.lt k hk).1
  have hB2 : B ≤ (W.alloc (.cells cv TKV)).heap.size := by simp; omega
  have hcell : ∀ j u, (kvc v)[j]? = some u → (W.alloc (.cells cv TKV)).cell? ((⟨W.heap.size, 0, none⟩ : Addr).add j) = some u := by
    intro j u hu
    rw [Addr.add_lit, Nat.zero_add, (Box.new W TKV cv).cell, ← Array.getElem?_toList, hcv]
    exact hu
  have hone : ∀ u ∈ kvc v, u.oneCell' = true := by
    have := cellsKV_one [v]
    simpa [cellsKV] using this
  obtain ⟨v', w', hr, h2, h3, h4, h5⟩ := run_append_own_at (P := Try.prog) (W.alloc (.cells cv TKV)) B 30 o.type TKV i _ 4 48 Try.underlying30 hi hz0 hz1 hz2 rfl (by decide) _ n1 _ hown2.row ⟨W.heap.size, 0, none⟩ 1 1 (kvc v) (by simp [kvc]) hcell hone (by unfold maxLen; omega) (by omega) hB2
  unfold Oper.wp execOp
  simp only [ho, resolve, invoke, builtin, Sem.run_bind, Sem.run_pure, Result.andThen_ok, List.map_toArray, List.map_cons, List.map_nil, hs, hx, hr]
  obtain ⟨a', c', rfl⟩ := slice_of_row h2
  refine h a' c' w' ⟨by rw [List.length_append]; simp; omega, ?_⟩ (((Below.refl _ _).alloc hB _).trans ((Below.refl B _).grown h3 hB2 hlt)) (by rw [← own_blk a1 n1 c1]; exact h3)
  rw [cellsKV_append]
  simpa [cellsKV] using h2
end Go.Proofs.Ytjoamhcehpjepab
