/- The state that a manifest's bytes tell, plainly; files laid by several edits; what is told of a log that is cut. -/
import Derived.Test.YtmlfbihlbiikeaaGreatDoorQe12
import Derived.Test.YtmlfbihlbiikeaaGreatDoorQe04
import Derived.WalkKit
set_option linter.unusedVariables false
set_option linter.unusedSimpArgs false
set_option maxRecDepth 100000
namespace Go.Proofs.YtmlfbihlbiikeaaGreatDoor
structure PSt where
 num : Nat
 v : PV
 log : Nat
 next : Nat
 last : Nat
def PSt.zero (n : Nat) : PSt := ⟨n, noV, 0, 0, 0⟩
def PSt.turn (s : PSt) (x : PE) (u : PV) : PSt := ⟨s.num, u, if 0 < x.log then x.log else s.log, if 0 < x.next then x.next else s.next, if 0 < x.last then x.last else s.last⟩
def stepS (s : PSt) (x : PE) : Option PSt := if (applyV s.v x).1 = 0 then some (s.turn x (applyV s.v x).2) else none
def stepsS : PSt → List PE → Option PSt
 | s, [] => some s
 | s, x :: r => (stepS s x).bind fun t => stepsS t r
theorem stepsS_append : ∀ (l m : List PE) (s : PSt), stepsS s (l ++ m) = (stepsS s l).bind fun t => stepsS t m
 | [], m, s => rfl
 | x :: l, m, s => by
  show (stepS s x).bind (fun t => stepsS t (l ++ m)) = ((stepS s x).bind fun t => stepsS t l).bind fun t => stepsS t m
  cases h : stepS s x with
  | none => rfl
  | some t => exact stepsS_append l m t
theorem stepS_some {s t : PSt} {x : PE} (h : stepS s x = some t) : ∃ u, applyV s.v x = (0, u) ∧ t = s.turn x u := by
 unfold stepS at h
 split at h
 · rename_i h0
   refine ⟨(applyV s.v x).2, ?_, (Option.some.inj h).symm⟩
   rw [← h0]
 · cases h
def decS : PSt → List (List UInt8) → Option PSt
 | s, [] => some s
 | s, b :: r => (decE b).bind fun x => (stepS s x).bind fun t => decS t r
theorem decS_enc : ∀ (l : List PE) (s : PSt), (∀ x ∈ l, x.err = 0) → decS s (l.map PE.enc) = stepsS s l
 | [], s, _ => rfl
 | x :: l, s, h => by
  show (decE x.enc).bind (fun x => (stepS s x).bind fun t => decS t (l.map PE.enc)) = (stepS s x).bind fun t => stepsS t l
  rw [decE_iff.2 ⟨h x (by simp), rfl⟩]
  show (stepS s x).bind (fun t => decS t (l.map PE.enc)) = _
  cases stepS s x with
  | none => rfl
  | some t => exact decS_enc l t (fun y hy => h y (by simp [hy]))
def toldP (num : Nat) (m : List UInt8) : Option PSt :=
 if (walRead m).2.2 = 2 ∨ (walRead m).1 = [] then none else decS (PSt.zero num) (walRead m).1
def manOf (l : List PE) : List UInt8 := logFrom [] (l.map PE.enc)
theorem manOf_snoc (l : List PE) (x : PE) : manOf (l ++ [x]) = manOf l ++ putP (manOf l).length true x.enc := by
 unfold manOf
 rw [List.map_append]
 exact logFrom_snoc _ _ _
theorem told_cut (num : Nat) (l : List PE) (cut : Nat) (hl : cut ≤ (manOf l).length) (he : ∀ x ∈ l, x.err = 0) :
 ∃ j, j ≤ l.length ∧ (manOf (l.take j)).length ≤ cut ∧ (j = l.length ∨ cut < (manOf (l.take (j + 1))).length) ∧ toldP num ((manOf l).take cut) = if j = 0 then none else stepsS (PSt.zero num) (l.take j) := by
 obtain ⟨j, e, hj, he1, hr, h3, h4, _⟩ := read_log (l.map PE.enc) [] [] cut (Nat.zero_le _) hl
 rw [List.length_map] at hj h4
 refine ⟨j, hj, by unfold manOf; rw [List.map_take]; exact h3, ?_, ?_⟩
 · rcases h4 with h4 | h4
   · exact .inl h4
   · exact .inr (by unfold manOf; rw [List.map_take]; exact h4)
 · have hw : walRead ((manOf l).take cut) = ((l.take j).map PE.enc, (logFrom [] ((l.map PE.enc).take j)).length, e) := by
    rw [List.map_take]
    exact hr
   unfold toldP
   rw [hw]
   by_cases h0 : j = 0
   · subst h0
     rw [if_pos rfl, if_pos (.inr (by simp))]
   · rw [if_neg h0]
     show (if e = 2 ∨ (l.take j).map PE.enc = [] then none else decS (PSt.zero num) ((l.take j).map PE.enc)) = _
     rw [if_neg (fun h => ?_), decS_enc _ _ (fun x hx => he x (List.mem_of_mem_take hx))]
     rcases h with h | h
     · omega
     · have h5 := congrArg List.length h
       rw [List.length_map, List.length_take, List.length_nil] at h5
       omega
theorem manOf_mono (l : List PE) : ∀ k, (manOf l).length ≤ (manOf (l ++ k)).length := fun k => by
 unfold manOf
 rw [List.map_append]
 have : ∀ (rs qs A : List (List UInt8)) (B : List UInt8), (logFrom B rs).length ≤ (logFrom B (rs ++ qs)).length := fun rs => by
  induction rs with
  | nil =>
   intro qs A B
   obtain ⟨X, hX⟩ := logFrom_begins qs B
   show B.length ≤ (logFrom B qs).length
   rw [hX, List.length_append]
   omega
  | cons r rs ih => exact fun qs A B => ih qs A _
 exact this _ _ [] _
theorem told_whole (num : Nat) (l : List PE) (hne : l ≠ []) (he : ∀ x ∈ l, x.err = 0) : toldP num (manOf l) = stepsS (PSt.zero num) l := by
 obtain ⟨j, hj, h1, h2, h3⟩ := told_cut num l (manOf l).length (Nat.le_refl _) he
 rw [List.take_length] at h3
 have hjl : j = l.length := by
  rcases h2 with h2 | h2
  · exact h2
  · by_cases hjl : j = l.length
    · exact hjl
    · have h4 := manOf_mono (l.take (j + 1)) (l.drop (j + 1))
      rw [List.take_append_drop] at h4
      omega
 have h0 : j ≠ 0 := fun h => hne (List.eq_nil_of_length_eq_zero (by omega))
 rw [h3, if_neg h0, hjl, List.take_length]
theorem told_more (num : Nat) (l : List PE) (x : PE) (hne : l ≠ []) (he : ∀ y ∈ l, y.err = 0) (hx : x.err = 0) (cut : Nat) :
 toldP num (manOf l ++ (putP (manOf l).length true x.enc).take cut) = stepsS (PSt.zero num) l ∨ (toldP num (manOf l ++ (putP (manOf l).length true x.enc).take cut) = stepsS (PSt.zero num) (l ++ [x]) ∧ (putP (manOf l).length true x.enc).length ≤ cut) := by
 have he2 : ∀ y ∈ l ++ [x], y.err = 0 := fun y hy => by
  rcases List.mem_append.1 hy with hy | hy
  · exact he y hy
  · obtain rfl := List.mem_singleton.1 hy
    exact hx
 by_cases hc : (putP (manOf l).length true x.enc).length ≤ cut
 · right
   rw [List.take_of_length_le hc, ← manOf_snoc]
   exact ⟨told_whole num (l ++ [x]) (by simp) he2, hc⟩
 · left
   have e : manOf l ++ (putP (manOf l).length true x.enc).take cut = (manOf (l ++ [x])).take ((manOf l).length + cut) := by
    rw [manOf_snoc, List.take_length_add_append]
   rw [e]
   obtain ⟨j, hj, h1, h2, h3⟩ := told_cut num (l ++ [x]) ((manOf l).length + cut) (by rw [manOf_snoc, List.length_append]; omega) he2
   rw [List.length_append, List.length_singleton] at hj h2
   have hjl : j = l.length := by
    have a1 : j ≠ l.length + 1 := fun hq => by
     rw [List.take_of_length_le (by rw [List.length_append, List.length_singleton]; omega), manOf_snoc, List.length_append] at h1
     omega
    rcases h2 with h2 | h2
    · exact absurd h2 a1
    · by_cases hlt : j < l.length
      · rw [List.take_append_of_le_length (by omega)] at h2
        have h4 := manOf_mono (l.take (j + 1)) (l.drop (j + 1))
        rw [List.take_append_drop] at h4
        omega
      · omega
   have h0 : j ≠ 0 := fun h => hne (List.eq_nil_of_length_eq_zero (by omega))
   rw [h3, if_neg h0, hjl, List.take_left' rfl]
theorem lays_ok : ∀ (l : List PE) (s : PSt), VOk s.v → (∀ x ∈ l, x.err = 0 ∧ x.dels = []) → (l.flatMap PE.adds).Pairwise Compat → (∀ f ∈ l.flatMap PE.adds, ∀ g ∈ s.v.all, Compat f g) →
 ∃ t, stepsS s l = some t ∧ VOk t.v ∧ t.num = s.num ∧ ∀ g, g ∈ t.v.all ↔ g ∈ l.flatMap PE.adds ∨ g ∈ s.v.all
 | [], s, h, _, _, _ => ⟨s, rfl, h, rfl, fun g => by simp⟩
 | x :: l, s, h, he, hp, hc => by
  obtain ⟨he1, hd⟩ := he x (by simp)
  rw [List.flatMap_cons] at hp hc
  obtain ⟨hp1, hp2, hp3⟩ := List.pairwise_append.1 hp
  have hfe : ∀ f ∈ x.adds, f.err = 0 := (PE.err_zero he1).2.2.2.2.2.2
  have ha : applyV s.v x = addsV s.v x.adds := apply_mk h he1 (by rw [hd]; rfl)
  have h0 : (addsV s.v x.adds).1 = 0 := (adds_iff h hfe).2 ⟨hp1, fun f hf g hg => hc f (List.mem_append_left _ hf) g hg⟩
  obtain ⟨k1, k2⟩ := adds_ok h hfe h0
  obtain ⟨t, t1, t2, t3, t4⟩ := lays_ok l (s.turn x (addsV s.v x.adds).2) k1 (fun y hy => he y (by simp [hy])) hp2 (fun f hf g hg => by
   rcases (k2 g).1 hg with hg | hg
   · exact (hp3 g hg f hf).symm
   · exact hc f (List.mem_append_right _ hf) g hg)
  refine ⟨t, ?_, t2, t3, fun g => ?_⟩
  · show (stepS s x).bind (fun t => stepsS t l) = some t
    have hs : stepS s x = some (s.turn x (addsV s.v x.adds).2) := by
     unfold stepS
     rw [ha, if_pos h0]
    rw [hs]
    exact t1
  · rw [t4 g, show (s.turn x (addsV s.v x.adds).2).v = (addsV s.v x.adds).2 from rfl, k2 g, List.flatMap_cons, List.mem_append]
    constructor
    · rintro (h | h | h)
      · exact .inl (.inr h)
      · exact .inl (.inl h)
      · exact .inr h
    · rintro ((h | h) | h)
      · exact .inr (.inl h)
      · exact .inl h
      · exact .inr (.inr h)
theorem lays_same {v : PV} (hv : VOk v) (l : List PE) (n : Nat) (he : ∀ x ∈ l, x.err = 0 ∧ x.dels = []) (hp : (l.flatMap PE.adds).Perm v.all) : ∃ t, stepsS (PSt.zero n) l = some t ∧ VOk t.v ∧ t.num = n ∧ ∀ k, k < 4 → t.v k = v k := by
 have hnd : v.all.Nodup := by
  have := hv.one
  exact (List.pairwise_map.1 this).imp (fun h e => h (congrArg PF.num e))
 have hpw : v.all.Pairwise Compat := by
  rw [List.pairwise_iff_getElem]
  intro i j hi hj hij
  refine hv.compat (List.getElem_mem hi) (List.getElem_mem hj) (fun e => ?_)
  have := List.pairwise_iff_getElem.1 hnd i j hi hj hij
  exact this e
 have hp2 : (l.flatMap PE.adds).Pairwise Compat := hp.symm.pairwise hpw (fun h => h.symm)
 obtain ⟨t, t1, t2, t3, t4⟩ := lays_ok l (PSt.zero n) VOk.none he hp2 (fun f hf g hg => by simp [PSt.zero, PV.all, noV] at hg)
 refine ⟨t, t1, t2, t3, VOk.ext t2 hv (fun g => ?_)⟩
 rw [t4 g, hp.mem_iff]
 simp [PSt.zero, PV.all, noV]
end Go.Proofs.YtmlfbihlbiikeaaGreatDoor
namespace Go.Proofs.YtmlfbihlbiikeaaGreatDoor
def chGF {α : Type} : Nat → Nat → List α → List (List α)
 | 0, _, _ => []
 | f + 1, iv, l => if l = [] then [] else l.take iv :: chGF f iv (l.drop iv)
def chG {α : Type} (iv : Nat) (l : List α) : List (List α) := chGF l.length iv l
theorem chGF_more {α : Type} (iv : Nat) (hi : 1 ≤ iv) : ∀ (f g : Nat) (l : List α), l.length ≤ f → l.length ≤ g → chGF f iv l = chGF g iv l
 | 0, 0, l, _, _ => rfl
 | 0, g + 1, l, hf, _ => by
  obtain rfl := List.eq_nil_of_length_eq_zero (by omega : l.length = 0)
  simp [chGF]
 | f + 1, 0, l, _, hg => by
  obtain rfl := List.eq_nil_of_length_eq_zero (by omega : l.length = 0)
  simp [chGF]
 | f + 1, g + 1, l, hf, hg => by
  unfold chGF
  split
  · rfl
  · rename_i h
    have : 0 < l.length := List.length_pos_iff.2 h
    rw [chGF_more iv hi f g (l.drop iv) (by simp; omega) (by simp; omega)]
theorem chG_nil {α : Type} (iv : Nat) : chG iv ([] : List α) = [] := rfl
theorem chG_cons {α : Type} {iv : Nat} (hi : 1 ≤ iv) {l : List α} (h : l ≠ []) : chG iv l = l.take iv :: chG iv (l.drop iv) := by
 have h0 : 0 < l.length := List.length_pos_iff.2 h
 unfold chG
 obtain ⟨f, hf⟩ : ∃ f, l.length = f + 1 := ⟨l.length - 1, by omega⟩
 rw [hf, chGF, if_neg h, chGF_more iv hi f (l.drop iv).length _ (by simp; omega) (Nat.le_refl _)]
theorem chG_ind {α : Type} {iv : Nat} (hi : 1 ≤ iv) {P : List α → Prop} (h0 : P []) (h1 : ∀ l, l ≠ [] → P (l.drop iv) → P l) : ∀ l, P l := by
 have : ∀ n (l : List α), l.length ≤ n → P l := by
  intro n
  induction n with
  | zero =>
   intro l hl
   obtain rfl := List.eq_nil_of_length_eq_zero (by omega : l.length = 0)
   exact h0
  | succ n ih =>
   intro l hl
   by_cases h : l = []
   · subst h; exact h0
   · have : 0 < l.length := List.length_pos_iff.2 h
     exact h1 l h (ih _ (by simp; omega))
 exact fun l => this l.length l (Nat.le_refl _)
theorem chG_flat {α : Type} {iv : Nat} (hi : 1 ≤ iv) (l : List α) : (chG iv l).flatten = l := by
 refine chG_ind hi (P := fun l => (chG iv l).flatten = l) rfl (fun l h ih => ?_) l
 show (chG iv l).flatten = l
 rw [chG_cons hi h, List.flatten_cons, ih, List.take_append_drop]
theorem chG_mem {α : Type} {iv : Nat} (hi : 1 ≤ iv) (l : List α) : ∀ c ∈ chG iv l, c ≠ [] ∧ c.length ≤ iv ∧ ∀ e ∈ c, e ∈ l := by
 refine chG_ind hi (P := fun l => ∀ c ∈ chG iv l, c ≠ [] ∧ c.length ≤ iv ∧ ∀ e ∈ c, e ∈ l) (by simp [chG_nil]) (fun l h ih => ?_) l
 intro c hc
 rw [chG_cons hi h] at hc
 rcases List.mem_cons.1 hc with rfl | hc
 · refine ⟨?_, by simp; omega, fun e he => List.mem_of_mem_take he⟩
   intro e
   have := congrArg List.length e
   have h0 : 0 < l.length := List.length_pos_iff.2 h
   rw [List.length_take, List.length_nil] at this
   omega
 · obtain ⟨a, b, d⟩ := ih c hc
   exact ⟨a, b, fun e he => List.mem_of_mem_drop (d e he)⟩
theorem chG_at {α : Type} {iv : Nat} (hi : 1 ≤ iv) (l : List α) : ∀ j, (j * iv < l.length ↔ j < (chG iv l).length) ∧ ∀ h : j < (chG iv l).length, (chG iv l)[j] = (l.drop (j * iv)).take iv := by
 refine chG_ind hi (P := fun l => ∀ j, (j * iv < l.length ↔ j < (chG iv l).length) ∧ ∀ h : j < (chG iv l).length, (chG iv l)[j] = (l.drop (j * iv)).take iv) ?_ (fun l hne ih j => ?_) l
 · intro j
   refine ⟨by simp [chG_nil], fun h => ?_⟩
   simp [chG_nil] at h
 · have h0 : 0 < l.length := List.length_pos_iff.2 hne
   have hcc := chG_cons hi hne
   have hl : (chG iv l).length = (chG iv (l.drop iv)).length + 1 := by rw [hcc]; simp
   cases j with
   | zero =>
    refine ⟨by rw [hl]; simp; omega, fun h => ?_⟩
    simp [hcc]
   | succ j =>
    obtain ⟨i1, i2⟩ := ih j
    have hmul : (j + 1) * iv = j * iv + iv := by rw [Nat.add_mul, Nat.one_mul]
    refine ⟨?_, fun h => ?_⟩
    · rw [hl, hmul]
      rw [List.length_drop] at i1
      omega
    · have hj : j < (chG iv (l.drop iv)).length := by omega
      have := i2 hj
      rw [List.drop_drop, show iv + j * iv = (j + 1) * iv by omega] at this
      rw [← this]
      simp [hcc]
end Go.Proofs.YtmlfbihlbiikeaaGreatDoor
namespace Go.Proofs.YtmlfbihlbiikeaaGreatDoor
def PSt.numE (s : PSt) : PE := ⟨s.log, s.next, s.last, [], []⟩
def layE (l : List PF) : PE := ⟨0, 0, 0, [], l⟩
def PSt.eds (s : PSt) : List PE := s.numE :: (chG 100 s.v.all).map layE
def PSt.bytes (s : PSt) : List UInt8 := manOf s.eds
structure PSt.Like (s t : PSt) : Prop where
 num : s.num = t.num
 log : s.log = t.log
 next : s.next = t.next
 last : s.last = t.last
 v : ∀ n, n < 4 → s.v n = t.v n
theorem PSt.Like.refl (s : PSt) : s.Like s := ⟨rfl, rfl, rfl, rfl, fun _ _ => rfl⟩
structure PSt.Ok (s : PSt) : Prop where
 v : VOk s.v
 log : s.log ≤ 1099511627776
 next : s.next ≤ 1099511627776
 last : s.last ≤ 72057594037927935
theorem numE_err (s : PSt) : s.numE.err = 0 ↔ s.log ≤ 1099511627776 ∧ s.next ≤ 1099511627776 ∧ s.last ≤ 72057594037927935 := by
 constructor
 · intro h
   obtain ⟨_, _, a, b, c, _⟩ := PE.err_zero h
   exact ⟨a, b, c⟩
 · rintro ⟨a, b, c⟩
   exact err_mk14 (by simp [PSt.numE]) (by simp [PSt.numE]) a b c (by simp [PSt.numE]) (by simp [PSt.numE])
theorem layE_err {l : List PF} (h : l.length ≤ 100) (he : ∀ f ∈ l, f.err = 0) : (layE l).err = 0 := err_mk14 (by simp [layE]) h (by simp [layE]) (by simp [layE]) (by simp [layE]) (by simp [layE]) he
theorem VOk.errs {v : PV} (h : VOk v) : ∀ f ∈ v.all, f.err = 0 := fun f hf => by
 obtain ⟨n, hn, hf⟩ := mem_all.1 hf
 exact (h.level hn hf).1
theorem PSt.Ok.errs {s : PSt} (h : s.Ok) : ∀ x ∈ s.eds, x.err = 0 := fun x hx => by
 rcases List.mem_cons.1 hx with rfl | hx
 · exact (numE_err s).2 ⟨h.log, h.next, h.last⟩
 · obtain ⟨c, hc, rfl⟩ := List.mem_map.1 hx
   obtain ⟨_, a, b⟩ := chG_mem (iv := 100) (by omega) s.v.all c hc
   exact layE_err a (fun f hf => h.v.errs f (b f hf))
theorem stepS_num (n : Nat) (s : PSt) (h : s.Ok) : stepS (PSt.zero n) s.numE = some ⟨n, noV, s.log, s.next, s.last⟩ := by
 have he : s.numE.err = 0 := (numE_err s).2 ⟨h.log, h.next, h.last⟩
 have ha : applyV noV s.numE = (0, noV) := by
  rw [apply_mk VOk.none he (show delsV noV s.numE.dels = some noV from rfl)]
  rfl
 unfold stepS
 rw [show (PSt.zero n).v = noV from rfl, ha, if_pos rfl]
 have z : ∀ k : Nat, (if 0 < k then k else 0) = k := fun k => by split <;> omega
 show some (⟨n, noV, if 0 < s.log then s.log else 0, if 0 < s.next then s.next else 0, if 0 < s.last then s.last else 0⟩ : PSt) = _
 rw [z, z, z]
theorem steps_nums : ∀ (l : List PE) (s t : PSt), stepsS s l = some t → (∀ x ∈ l, x.log = 0 ∧ x.next = 0 ∧ x.last = 0) → t.num = s.num ∧ t.log = s.log ∧ t.next = s.next ∧ t.last = s.last
 | [], s, t, h, _ => by
  obtain rfl := Option.some.inj h
  exact ⟨rfl, rfl, rfl, rfl⟩
 | x :: l, s, t, h, hz => by
  have h' : (stepS s x).bind (fun u => stepsS u l) = some t := h
  cases hs : stepS s x with
  | none => rw [hs] at h'; cases h'
  | some u =>
   rw [hs] at h'
   obtain ⟨a, b, c, d⟩ := steps_nums l u t h' (fun y hy => hz y (by simp [hy]))
   obtain ⟨y, _, rfl⟩ := stepS_some hs
   obtain ⟨z1, z2, z3⟩ := hz x (by simp)
   refine ⟨a, ?_, ?_, ?_⟩
   · rw [b]
     show (if 0 < x.log then x.log else s.log) = s.log
     rw [z1, if_neg (by omega)]
   · rw [c]
     show (if 0 < x.next then x.next else s.next) = s.next
     rw [z2, if_neg (by omega)]
   · rw [d]
     show (if 0 < x.last then x.last else s.last) = s.last
     rw [z3, if_neg (by omega)]
theorem flat_lay (l : List (List PF)) : (l.map layE).flatMap PE.adds = l.flatten := by
 induction l with
 | nil => rfl
 | cons a l ih =>
  rw [List.map_cons, List.flatMap_cons, ih, List.flatten_cons]
  rfl
theorem steps_state {s : PSt} (h : s.Ok) (n : Nat) : ∃ t, stepsS (PSt.zero n) s.eds = some t ∧ VOk t.v ∧ (⟨n, s.v, s.log, s.next, s.last⟩ : PSt).Like t := by
 have hl : ∀ x ∈ (chG 100 s.v.all).map layE, x.err = 0 ∧ x.dels = [] := fun x hx => by
  refine ⟨h.errs x (List.mem_cons_of_mem _ hx), ?_⟩
  obtain ⟨c, hc, rfl⟩ := List.mem_map.1 hx
  rfl
 have hp : ((chG 100 s.v.all).map layE).flatMap PE.adds = s.v.all := by rw [flat_lay, chG_flat (by omega)]
 have hz : ∀ x ∈ (chG 100 s.v.all).map layE, x.log = 0 ∧ x.next = 0 ∧ x.last = 0 := fun x hx => by
  obtain ⟨c, hc, rfl⟩ := List.mem_map.1 hx
  exact ⟨rfl, rfl, rfl⟩
 obtain ⟨t, t1, t2, t3, t4⟩ := lays_same h.v _ n hl (by rw [hp])
 have key : ∀ (l : List PE) (a b t : PSt), a.v = b.v → stepsS a l = some t → ∃ u, stepsS b l = some u ∧ u.v = t.v := fun l => by
  induction l with
  | nil =>
   intro a b t hv ht
   obtain rfl := Option.some.inj ht
   exact ⟨b, rfl, hv.symm⟩
  | cons x l ih =>
   intro a b t hv ht
   have ht' : (stepS a x).bind (fun u => stepsS u l) = some t := ht
   cases hs : stepS a x with
   | none => rw [hs] at ht'; cases ht'
   | some u =>
    rw [hs] at ht'
    obtain ⟨y, hy, rfl⟩ := stepS_some hs
    have hs2 : stepS b x = some (b.turn x y) := by
     unfold stepS
     rw [← hv, hy, if_pos rfl]
    obtain ⟨u, hu, hv2⟩ := ih (a.turn x y) (b.turn x y) t rfl ht'
    refine ⟨u, ?_, hv2⟩
    show (stepS b x).bind (fun u => stepsS u l) = some u
    rw [hs2]
    exact hu
 obtain ⟨u, hu, hv⟩ := key _ (PSt.zero n) ⟨n, noV, s.log, s.next, s.last⟩ t rfl t1
 obtain ⟨a, b, c, d⟩ := steps_nums _ _ _ hu hz
 refine ⟨u, ?_, by rw [hv]; exact t2, a.symm, b.symm, c.symm, d.symm, fun k hk => by rw [hv]; exact (t4 k hk).symm⟩
 show (stepS (PSt.zero n) s.numE).bind (fun u => stepsS u _) = some u
 rw [stepS_num n s h]
 exact hu
theorem eds_ne (s : PSt) : s.eds ≠ [] := by simp [PSt.eds]
def Four (v : PV) : Prop := ∀ n, 4 ≤ n → v n = []
theorem four_no : Four noV := fun _ _ => rfl
theorem four_eq {v w : PV} (h : Four v) (k : Four w) (e : ∀ n, n < 4 → v n = w n) : v = w := by
 funext n
 by_cases hn : n < 4
 · exact e n hn
 · rw [h n (by omega), k n (by omega)]
theorem four_upd {v : PV} (h : Four v) {n : Nat} (hn : n < 4) (l : List PF) : Four (v.upd n l) := fun m hm => by rw [PV.upd_other v l (by omega)]; exact h m hm
theorem four_dels : ∀ {l : List PG} {v u : PV}, Four v → (∀ d ∈ l, d.err = 0) → delsV v l = some u → Four u
 | [], v, u, h, _, e => by
  obtain rfl := Option.some.inj (show some v = some u from e)
  exact h
 | d :: l, v, u, h, hd, e => by
  have e' : (delV v d).bind (fun x => delsV x l) = some u := e
  cases hx : delV v d with
  | none => rw [hx] at e'; cases e'
  | some x =>
   rw [hx] at e'
   refine four_dels (l := l) (v := x) ?_ (fun y hy => hd y (by simp [hy])) e'
   unfold delV at hx
   split at hx
   · obtain rfl := Option.some.inj hx
     exact four_upd h (lev_nat' (hd d (by simp))).1 _
   · cases hx
theorem four_adds : ∀ {l : List PF} {v : PV}, Four v → (∀ f ∈ l, f.err = 0) → Four (addsV v l).2
 | [], v, h, _ => h
 | f :: l, v, h, hf => by
  unfold addsV
  split
  · exact four_no
  · exact four_adds (four_upd h (lev_nat (hf f (by simp))).1 _) (fun g hg => hf g (by simp [hg]))
theorem four_apply {v w : PV} {x : PE} (h : Four v) (e : applyV v x = (0, w)) : Four w := by
 obtain ⟨_, he, u, hu, ha⟩ := apply_zero e
 obtain ⟨_, _, _, _, _, h1, h2⟩ := PE.err_zero he
 have := four_adds (four_dels h h1 hu) h2
 rw [ha] at this
 exact this
theorem four_steps : ∀ (l : List PE) (s t : PSt), Four s.v → stepsS s l = some t → Four t.v
 | [], s, t, h, e => by
  obtain rfl := Option.some.inj (show some s = some t from e)
  exact h
 | x :: l, s, t, h, e => by
  have e' : (stepS s x).bind (fun u => stepsS u l) = some t := e
  cases hs : stepS s x with
  | none => rw [hs] at e'; cases e'
  | some u =>
   rw [hs] at e'
   obtain ⟨y, hy, rfl⟩ := stepS_some hs
   exact four_steps l _ t (four_apply h hy) e'
theorem told_just {s : PSt} (h : s.Ok) (h4 : Four s.v) : stepsS (PSt.zero s.num) s.eds = some s := by
 obtain ⟨t, h1, h2, h3⟩ := steps_state h s.num
 have h5 := four_steps _ _ _ four_no h1
 have e : s.v = t.v := four_eq h4 h5 h3.v
 have : t = s := by
  obtain ⟨n, v, a, b, c⟩ := s
  obtain ⟨n2, v2, a2, b2, c2⟩ := t
  obtain rfl : n = n2 := h3.num
  obtain rfl : v = v2 := e
  obtain rfl : a = a2 := h3.log
  obtain rfl : b = b2 := h3.next
  obtain rfl : c = c2 := h3.last
  rfl
 rw [← this]
 rw [this] at h1 ⊢
 exact h1
def told (s : PSt) (l : List PE) : Option PSt := stepsS s l
theorem told_adds {s : PSt} (h : s.Ok) (h4 : Four s.v) (l : List PE) : stepsS (PSt.zero s.num) (s.eds ++ l) = stepsS s l := by
 rw [stepsS_append, told_just h h4]
 rfl
theorem all_grow {v w : PV} {x : PE} (h : applyV v x = (0, w)) : w.all.length ≤ v.all.length + x.adds.length := by
 obtain ⟨hw, hg⟩ := apply_ok h
 have hv := (apply_zero h).1
 have hnd : (w.all.map PF.num).Nodup := hw.one
 have hnd2 : w.all.Nodup := by
  have := List.pairwise_map.1 hnd
  exact this.imp (fun h e => h (congrArg PF.num e))
 have hsub : w.all ⊆ x.adds ++ v.all := fun f hf => by
  rcases (hg f).1 hf with h | h
  · exact List.mem_append_left _ h
  · exact List.mem_append_right _ h.1
 have := hnd2.length_le_of_subset hsub
 rw [List.length_append] at this
 omega
end Go.Proofs.YtmlfbihlbiikeaaGreatDoor
