/- What an edit makes of files in levels, plainly: which edits are refused, and which files are there behind one. -/
import Derived.Test.YtcdfgcjecmpjhaaV14Plain
namespace Go.Proofs.Ytcdfgcjecmpjhaa
set_option linter.unusedVariables false
set_option linter.unusedSimpArgs false
def pairB (n : Nat) : List PF → Bool
  | [] => true
  | f :: r => r.all (fun g => decide (ahead n f g)) && pairB n r
theorem pairB_iff {n : Nat} : ∀ {l : List PF}, pairB n l = true ↔ l.Pairwise (ahead n)
  | [] => by simp [pairB]
  | f :: r => by
    rw [pairB, Bool.and_eq_true, pairB_iff, List.pairwise_cons, List.all_eq_true]
    simp only [decide_eq_true_eq]
def okV (v : PV) : Bool := ([0, 1, 2, 3].all fun n => (v n).all (fun f => decide (f.err = 0 ∧ f.level = ((n : Nat) : Int))) && pairB n (v n)) && decide (v.all.map PF.num).Nodup
theorem okV_iff {v : PV} : okV v = true ↔ VOk v := by
  unfold okV
  rw [Bool.and_eq_true, decide_eq_true_iff, List.all_eq_true]
  have hk : ∀ n, (((v n).all (fun f => decide (f.err = 0 ∧ f.level = ((n : Nat) : Int))) && pairB n (v n)) = true ↔ LvOk n (v n)) := fun n => by
    rw [Bool.and_eq_true, pairB_iff, List.all_eq_true]
    simp only [decide_eq_true_eq]
    exact ⟨fun h => ⟨h.1, h.2⟩, fun h => ⟨h.each, h.row⟩⟩
  constructor
  · rintro ⟨h1, h2⟩
    refine ⟨fun n hn => ?_, h2⟩
    have hm : n ∈ [0, 1, 2, 3] := by simp; omega
    exact (hk n).1 (h1 n hm)
  · intro h
    refine ⟨fun n hn => ?_, h.one⟩
    have hn4 : n < 4 := by simp at hn; omega
    exact (hk n).2 (h.lv n hn4)
/-- A file has a user from one to another. -/
def hasU (g : PF) (a b : ByteArray) : Bool := decide (¬ ul b a ∧ ¬ ul g.large.user g.small.user ∧ ¬ ul b g.small.user ∧ ¬ ul g.large.user a)
theorem hasU_no {f g : PF} (hf : f.err = 0) (hg : g.err = 0) : hasU g f.small.user f.large.user = false ↔ apartF f g ∨ apartF g f := by
  unfold hasU
  rw [decide_eq_false_iff_not]
  have h1 := PF.users hf
  have h2 := PF.users hg
  constructor
  · intro h
    by_cases h3 : ul f.large.user g.small.user
    · exact .inl h3
    · by_cases h4 : ul g.large.user f.small.user
      · exact .inr h4
      · exact absurd ⟨h1, h2, h3, h4⟩ h
  · rintro (h | h) ⟨_, _, h3, h4⟩
    · exact h3 h
    · exact h4 h
def delV (v : PV) (d : PG) : Option PV := if (v d.level.toNat).any (fun f => decide (f.num = d.num)) = true then some (v.upd d.level.toNat (dropF d.num (v d.level.toNat))) else none
def delsV : PV → List PG → Option PV
  | v, [] => some v
  | v, d :: r => (delV v d).bind fun u => delsV u r
def addE (v : PV) (f : PF) : Nat :=
  if v.all.any (fun g => decide (g.num = f.num)) = true then 142
  else if f.level ≠ 0 ∧ (v f.level.toNat).any (fun g => hasU g f.small.user f.large.user) = true then 143 else 0
def addV (v : PV) (f : PF) : PV := v.upd f.level.toNat (insF f.level.toNat f (v f.level.toNat))
def noV : PV := fun _ => []
def addsV : PV → List PF → Nat × PV
  | v, [] => (0, v)
  | v, f :: r => if addE v f ≠ 0 then (addE v f, noV) else addsV (addV v f) r
def applyV (v : PV) (x : PE) : Nat × PV :=
  if okV v = false then (140, noV)
  else if x.err ≠ 0 then (x.err, noV)
  else match delsV v x.dels with
    | none => (141, noV)
    | some u => addsV u x.adds
theorem lev_nat {f : PF} (h : f.err = 0) : f.level.toNat < 4 ∧ f.level = ((f.level.toNat : Nat) : Int) := by
  obtain ⟨hg, _⟩ := PF.err_zero h
  obtain ⟨h1, h2, _, _⟩ := gErr_zero hg
  omega
theorem lev_nat' {d : PG} (h : d.err = 0) : d.level.toNat < 4 ∧ d.level = ((d.level.toNat : Nat) : Int) := by
  obtain ⟨h1, h2, _, _⟩ := gErr_zero h
  omega
theorem addE_fits {v : PV} (h : VOk v) {f : PF} (hf : f.err = 0) : addE v f = 0 ↔ Fits v f f.level.toNat := by
  obtain ⟨hn, hl⟩ := lev_nat hf
  have hany : v.all.any (fun g => decide (g.num = f.num)) = true ↔ ∃ g ∈ v.all, g.num = f.num := by simp
  have hov : (v f.level.toNat).any (fun g => hasU g f.small.user f.large.user) = true ↔ ∃ g ∈ v f.level.toNat, hasU g f.small.user f.large.user = true := by simp
  unfold addE
  constructor
  · intro he
    by_cases h1 : v.all.any (fun g => decide (g.num = f.num)) = true
    · rw [if_pos h1] at he; omega
    · rw [if_neg h1] at he
      by_cases h2 : f.level ≠ 0 ∧ (v f.level.toNat).any (fun g => hasU g f.small.user f.large.user) = true
      · rw [if_pos h2] at he; omega
      · refine ⟨hf, hl, fun g hg e => h1 (hany.2 ⟨g, hg, e⟩), fun h0 g hg => ?_⟩
        refine (hasU_no hf (h.level hn hg).1).1 ?_
        rw [← Bool.not_eq_true]
        intro hu
        exact h2 ⟨by omega, hov.2 ⟨g, hg, hu⟩⟩
  · intro hF
    have h1 : ¬ v.all.any (fun g => decide (g.num = f.num)) = true := fun hx => by
      obtain ⟨g, hg, e⟩ := hany.1 hx
      exact hF.num g hg e
    rw [if_neg h1, if_neg]
    rintro ⟨h0, hx⟩
    obtain ⟨g, hg, hu⟩ := hov.1 hx
    have := (hasU_no hf (h.level hn hg).1).2 (hF.over (by omega) g hg)
    rw [this] at hu
    cases hu
/-- Two files that may be together. -/
def Compat (f g : PF) : Prop := g.num ≠ f.num ∧ (f.level = g.level → f.level ≠ 0 → apartF f g ∨ apartF g f)
theorem Compat.symm {f g : PF} (h : Compat f g) : Compat g f := ⟨fun e => h.1 e.symm, fun e h0 => (h.2 e.symm (by omega)).symm⟩
theorem fits_iff {v : PV} (h : VOk v) {f : PF} (hf : f.err = 0) : Fits v f f.level.toNat ↔ ∀ g ∈ v.all, Compat f g := by
  obtain ⟨hn, hl⟩ := lev_nat hf
  constructor
  · intro hF g hg
    refine ⟨hF.num g hg, fun e h0 => ?_⟩
    obtain ⟨m, hm, hgm⟩ := mem_all.1 hg
    have := (h.level hm hgm).2
    obtain rfl : m = f.level.toNat := by omega
    exact hF.over (by omega) g hgm
  · intro hc
    refine ⟨hf, hl, fun g hg => (hc g hg).1, fun h0 g hg => ?_⟩
    have := (h.level hn hg).2
    exact (hc g (mem_all.2 ⟨_, hn, hg⟩)).2 (by omega) (by omega)
theorem VOk.compat {v : PV} (h : VOk v) {f g : PF} (hf : f ∈ v.all) (hg : g ∈ v.all) (hne : f ≠ g) : Compat f g := by
  have hnn : g.num ≠ f.num := by
    intro e
    have hp := h.one
    obtain ⟨i, hi, rfl⟩ := List.getElem_of_mem hf
    obtain ⟨j, hj, rfl⟩ := List.getElem_of_mem hg
    have : i = j := by
      have h1 := (List.nodup_iff_pairwise_ne.1 hp) 
      rcases Nat.lt_trichotomy i j with hlt | rfl | hlt
      · exact absurd (by rw [List.getElem_map, List.getElem_map]; exact e.symm) ((List.pairwise_iff_getElem.1 h1) i j (by simpa using hi) (by simpa using hj) hlt)
      · rfl
      · exact absurd (by rw [List.getElem_map, List.getElem_map]; exact e) ((List.pairwise_iff_getElem.1 h1) j i (by simpa using hj) (by simpa using hi) hlt)
    subst this
    exact hne rfl
  refine ⟨hnn, fun el h0 => ?_⟩
  obtain ⟨n, hn, hfn⟩ := mem_all.1 hf
  obtain ⟨m, hm, hgm⟩ := mem_all.1 hg
  have e1 := (h.level hn hfn).2
  have e2 := (h.level hm hgm).2
  obtain rfl : n = m := by omega
  obtain ⟨i, hi, rfl⟩ := List.getElem_of_mem hfn
  obtain ⟨j, hj, rfl⟩ := List.getElem_of_mem hgm
  have hr := List.pairwise_iff_getElem.1 (h.lv n hn).row
  have hn0 : n ≠ 0 := by omega
  rcases Nat.lt_trichotomy i j with hlt | rfl | hlt
  · have := hr i j hi hj hlt
    unfold ahead at this
    rw [if_neg hn0] at this
    exact .inl this
  · exact absurd rfl hne
  · have := hr j i hj hi hlt
    unfold ahead at this
    rw [if_neg hn0] at this
    exact .inr this
theorem addV_all {v : PV} {f g : PF} (hf : f.err = 0) : g ∈ (addV v f).all ↔ g = f ∨ g ∈ v.all := add_all (lev_nat hf).1
/-- Files that are added, one behind the other. -/
theorem adds_iff : ∀ {l : List PF} {v : PV}, VOk v → (∀ f ∈ l, f.err = 0) → ((addsV v l).1 = 0 ↔ l.Pairwise Compat ∧ ∀ f ∈ l, ∀ g ∈ v.all, Compat f g)
  | [], v, _, _ => by simp [addsV]
  | f :: r, v, h, he => by
    have hf := he f (by simp)
    have h1 := addE_fits h hf
    unfold addsV
    by_cases h0 : addE v f = 0
    · rw [if_neg (by omega)]
      have hfit := h1.1 h0
      have hok : VOk (addV v f) := h.add (lev_nat hf).1 hfit
      rw [adds_iff hok (fun g hg => he g (by simp [hg])), List.pairwise_cons]
      constructor
      · rintro ⟨p, q⟩
        refine ⟨⟨fun g hg => (q g hg f ((addV_all hf).2 (.inl rfl))).symm, p⟩, fun g hg k hk => ?_⟩
        rcases List.mem_cons.1 hg with rfl | hg
        · exact (fits_iff h hf).1 hfit k hk
        · exact q g hg k ((addV_all hf).2 (.inr hk))
      · rintro ⟨⟨p1, p2⟩, q⟩
        refine ⟨p2, fun g hg k hk => ?_⟩
        rcases (addV_all hf).1 hk with rfl | hk
        · exact (p1 g hg).symm
        · exact q g (by simp [hg]) k hk
    · rw [if_pos h0]
      constructor
      · intro e
        exact absurd e h0
      · rintro ⟨_, q⟩
        exact absurd (h1.2 ((fits_iff h hf).2 (fun g hg => q f (by simp) g hg))) h0
theorem adds_ok : ∀ {l : List PF} {v : PV}, VOk v → (∀ f ∈ l, f.err = 0) → (addsV v l).1 = 0 → VOk (addsV v l).2 ∧ ∀ g, g ∈ (addsV v l).2.all ↔ g ∈ l ∨ g ∈ v.all
  | [], v, h, _, _ => ⟨h, fun g => by simp [addsV]⟩
  | f :: r, v, h, he, h0 => by
    have hf := he f (by simp)
    unfold addsV at h0 ⊢
    by_cases hx : addE v f = 0
    · rw [if_neg (by omega)] at h0 ⊢
      obtain ⟨k1, k2⟩ := adds_ok (h.add (lev_nat hf).1 ((addE_fits h hf).1 hx)) (fun g hg => he g (by simp [hg])) h0
      refine ⟨k1, fun g => ?_⟩
      have := k2 g
      rw [show (v.upd f.level.toNat (insF f.level.toNat f (v f.level.toNat))) = addV v f from rfl] at this
      rw [this, addV_all hf, List.mem_cons]
      constructor
      · rintro (h | h | h)
        · exact .inl (.inr h)
        · exact .inl (.inl h)
        · exact .inr h
      · rintro ((h | h) | h)
        · exact .inr (.inl h)
        · exact .inl h
        · exact .inr (.inr h)
    · rw [if_pos hx] at h0
      exact absurd h0 hx
/-- A file that is meant to be gone. -/
def Meant (d : PG) (f : PF) : Prop := f.num = d.num ∧ f.level = d.level
theorem delV_some {v u : PV} (h : VOk v) {d : PG} (hd : d.err = 0) (hu : delV v d = some u) : VOk u ∧ (∃ f ∈ v.all, Meant d f) ∧ ∀ g, g ∈ u.all ↔ g ∈ v.all ∧ ¬ Meant d g := by
  obtain ⟨hn, hl⟩ := lev_nat' hd
  unfold delV at hu
  split at hu
  · rename_i hany
    obtain rfl := Option.some.inj hu
    refine ⟨h.del _ _, ?_, fun g => ?_⟩
    · simp only [List.any_eq_true, decide_eq_true_eq] at hany
      obtain ⟨f, hf, e⟩ := hany
      exact ⟨f, mem_all.2 ⟨_, hn, hf⟩, e, by rw [(h.level hn hf).2]; omega⟩
    · rw [upd_all hn, mem_dropF, mem_all]
      constructor
      · rintro (⟨hg, he⟩ | ⟨m, hm, hne, hg⟩)
        · exact ⟨⟨_, hn, hg⟩, fun hm => he hm.1⟩
        · refine ⟨⟨m, hm, hg⟩, fun hx => ?_⟩
          have h1 := (h.level hm hg).2
          have h2 := hx.2
          omega
      · rintro ⟨⟨m, hm, hg⟩, hx⟩
        by_cases e : m = d.level.toNat
        · subst e
          exact .inl ⟨hg, fun e => hx ⟨e, by rw [(h.level hm hg).2]; omega⟩⟩
        · exact .inr ⟨m, hm, e, hg⟩
  · cases hu
theorem delV_none {v : PV} (h : VOk v) {d : PG} (hd : d.err = 0) (hu : delV v d = none) : ∀ f ∈ v.all, ¬ Meant d f := by
  obtain ⟨hn, hl⟩ := lev_nat' hd
  unfold delV at hu
  split at hu
  · cases hu
  · rename_i hany
    intro f hf hm
    obtain ⟨m, hm4, hfm⟩ := mem_all.1 hf
    have h1 := (h.level hm4 hfm).2
    have h2 := hm.2
    obtain rfl : m = d.level.toNat := by omega
    apply hany
    simp only [List.any_eq_true, decide_eq_true_eq]
    exact ⟨f, hfm, hm.1⟩
/-- Files that are gone, one behind the other. -/
theorem dels_some : ∀ {l : List PG} {v u : PV}, VOk v → (∀ d ∈ l, d.err = 0) → delsV v l = some u → VOk u ∧ (∀ d ∈ l, ∃ f ∈ v.all, Meant d f) ∧ (∀ g, g ∈ u.all ↔ g ∈ v.all ∧ ∀ d ∈ l, ¬ Meant d g)
  | [], v, u, h, _, hu => by
    obtain rfl := Option.some.inj hu
    exact ⟨h, by simp, by simp⟩
  | d :: r, v, u, h, he, hu => by
    unfold delsV at hu
    cases h1 : delV v d with
    | none => rw [h1] at hu; cases hu
    | some v1 =>
      rw [h1, Option.bind_some] at hu
      obtain ⟨k1, k2, k3⟩ := delV_some h (he d (by simp)) h1
      obtain ⟨q1, q2, q3⟩ := dels_some k1 (fun e he' => he e (by simp [he'])) hu
      refine ⟨q1, fun e he' => ?_, fun g => ?_⟩
      · rcases List.mem_cons.1 he' with rfl | he'
        · exact k2
        · obtain ⟨f, hf, hm⟩ := q2 e he'
          exact ⟨f, ((k3 f).1 hf).1, hm⟩
      · rw [q3, k3]
        simp only [List.mem_cons, forall_eq_or_imp, and_assoc]
theorem dels_yes : ∀ {l : List PG} {v : PV}, VOk v → (∀ d ∈ l, d.err = 0) → (∀ d ∈ l, ∃ f ∈ v.all, Meant d f) → l.Pairwise (fun a b => ∀ f, Meant a f → ¬ Meant b f) → ∃ u, delsV v l = some u
  | [], v, _, _, _, _ => ⟨v, rfl⟩
  | d :: r, v, h, he, hm, hp => by
    have p := List.pairwise_cons.1 hp
    unfold delsV
    cases h1 : delV v d with
    | none =>
      obtain ⟨f, hf, hfm⟩ := hm d (by simp)
      exact absurd hfm (delV_none h (he d (by simp)) h1 f hf)
    | some v1 =>
      obtain ⟨k1, k2, k3⟩ := delV_some h (he d (by simp)) h1
      rw [Option.bind_some]
      refine dels_yes k1 (fun e he' => he e (by simp [he'])) (fun e he' => ?_) p.2
      obtain ⟨f, hf, hfm⟩ := hm e (by simp [he'])
      exact ⟨f, (k3 f).2 ⟨hf, fun hx => p.1 e he' f hx hfm⟩, hfm⟩
end Go.Proofs.Ytcdfgcjecmpjhaa
