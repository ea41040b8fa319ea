/- What is taken away and laid again is as it was; files laid in whatever order are the same: plainly. -/
import Derived.Test.YtcdfgcjecmpjhaaV14Apply
namespace Go.Proofs.Ytcdfgcjecmpjhaa
set_option linter.unusedVariables false
set_option linter.unusedSimpArgs false
theorem err_mk14 {x : PE} (h1 : x.dels.length ≤ 20000) (h2 : x.adds.length ≤ 100) (h3 : x.log ≤ 1099511627776) (h4 : x.next ≤ 1099511627776) (h5 : x.last ≤ 72057594037927935) (h6 : ∀ g ∈ x.dels, g.err = 0) (h7 : ∀ f ∈ x.adds, f.err = 0) : x.err = 0 := by
  unfold PE.err
  rw [if_neg (by omega), if_neg (by omega), if_neg (by omega), errL_zero.2 h6, errL_zero.2 h7]
  rfl
theorem VOk.none : VOk noV := by
  refine ⟨fun n hn => ⟨fun f hf => absurd hf (by simp [noV]), List.Pairwise.nil⟩, ?_⟩
  simp [PV.all, noV]
/-- An edit that is not refused. -/
theorem apply_zero {v w : PV} {x : PE} (h : applyV v x = (0, w)) : VOk v ∧ x.err = 0 ∧ ∃ u, delsV v x.dels = some u ∧ addsV u x.adds = (0, w) := by
  unfold applyV at h
  by_cases h1 : okV v = false
  · rw [if_pos h1] at h
    cases h
  · rw [if_neg h1] at h
    by_cases h2 : x.err ≠ 0
    · rw [if_pos h2] at h
      simp only [Prod.mk.injEq] at h
      exact absurd h.1 h2
    · rw [if_neg h2] at h
      refine ⟨okV_iff.1 (by simpa using h1), by omega, ?_⟩
      cases h3 : delsV v x.dels with
      | none =>
        rw [h3] at h
        simp at h
      | some u =>
        rw [h3] at h
        exact ⟨u, rfl, h⟩
theorem apply_mk {v u : PV} {x : PE} (h : VOk v) (he : x.err = 0) (hd : delsV v x.dels = some u) : applyV v x = addsV u x.adds := by
  unfold applyV
  rw [if_neg (by rw [okV_iff.2 h]; decide), if_neg (by omega), hd]
/-- Behind an edit that is not refused files may be together; and which there are. -/
theorem apply_ok {v w : PV} {x : PE} (h : applyV v x = (0, w)) : VOk w ∧ ∀ g, g ∈ w.all ↔ g ∈ x.adds ∨ (g ∈ v.all ∧ ∀ d ∈ x.dels, ¬ Meant d g) := by
  obtain ⟨hv, he, u, hd, ha⟩ := apply_zero h
  obtain ⟨_, _, _, _, _, hde, hae⟩ := PE.err_zero he
  obtain ⟨k1, _, k3⟩ := dels_some hv hde hd
  obtain ⟨q1, q2⟩ := adds_ok k1 hae (by rw [ha])
  rw [ha] at q1 q2
  refine ⟨q1, fun g => ?_⟩
  rw [q2 g, k3 g]
theorem dels_pair : ∀ {l : List PG} {v u : PV}, VOk v → (∀ d ∈ l, d.err = 0) → delsV v l = some u → l.Pairwise (fun a b => ∀ f, Meant a f → ¬ Meant b f)
  | [], _, _, _, _, _ => List.Pairwise.nil
  | d :: r, v, u, h, he, hu => by
    unfold delsV at hu
    cases h1 : delV v d with
    | none => rw [h1] at hu; cases hu
    | some v1 =>
      rw [h1, Option.bind_some] at hu
      obtain ⟨k1, k2, k3⟩ := delV_some h (he d (by simp)) h1
      refine List.pairwise_cons.2 ⟨fun e he' f hf hx => ?_, dels_pair k1 (fun e he' => he e (by simp [he'])) hu⟩
      obtain ⟨_, q2, _⟩ := dels_some k1 (fun e he' => he e (by simp [he'])) hu
      obtain ⟨g, hg, hm⟩ := q2 e he'
      refine ((k3 g).1 hg).2 ⟨?_, ?_⟩
      · rw [hm.1, ← hx.1, hf.1]
      · rw [hm.2, ← hx.2, hf.2]
theorem lv_compat {v : PV} (h : VOk v) {n : Nat} (hn : n < 4) : (v n).Pairwise Compat := by
  refine List.Pairwise.imp_of_mem (R := ahead n) (fun {a b} ha hb hab => ?_) (h.lv n hn).row
  refine h.compat (mem_all.2 ⟨n, hn, ha⟩) (mem_all.2 ⟨n, hn, hb⟩) (fun e => ?_)
  subst e
  exact ahead_irr (h.level hn ha).1 hab
/-- What takes back an edit. -/
def back (v : PV) (x : PE) : PE := ⟨0, 0, 0, x.adds.map fun f => ⟨f.level, f.num⟩, x.dels.flatMap fun d => (v d.level.toNat).filter fun f => decide (f.num = d.num)⟩
theorem mem_back {v : PV} (h : VOk v) {x : PE} (he : ∀ d ∈ x.dels, d.err = 0) {f : PF} : f ∈ (back v x).adds ↔ f ∈ v.all ∧ ∃ d ∈ x.dels, Meant d f := by
  unfold back
  simp only [List.mem_flatMap, List.mem_filter, decide_eq_true_eq]
  constructor
  · rintro ⟨d, hd, hf, e⟩
    obtain ⟨hn, hl⟩ := lev_nat' (he d hd)
    exact ⟨mem_all.2 ⟨_, hn, hf⟩, d, hd, e, by rw [(h.level hn hf).2]; omega⟩
  · rintro ⟨hf, d, hd, hm⟩
    obtain ⟨n, hn, hfn⟩ := mem_all.1 hf
    have h1 := (h.level hn hfn).2
    have h2 := hm.2
    obtain rfl : n = d.level.toNat := by omega
    exact ⟨d, hd, hfn, hm.1⟩
theorem keeps {v w : PV} {x : PE} (h : applyV v x = (0, w)) (hl : (back v x).adds.length ≤ 100) : ∃ u, applyV w (back v x) = (0, u) ∧ ∀ n, n < 4 → u n = v n := by
  obtain ⟨hv, he, u0, hd, ha⟩ := apply_zero h
  obtain ⟨_, ha100, _, _, _, hde, hae⟩ := PE.err_zero he
  obtain ⟨k1, k2, k3⟩ := dels_some hv hde hd
  have hpd := dels_pair hv hde hd
  obtain ⟨q1, q2⟩ := adds_ok k1 hae (by rw [ha])
  have hpa := (adds_iff k1 hae).1 (by rw [ha])
  rw [ha] at q1 q2
  simp only at q1 q2
  have hbe : ∀ f ∈ (back v x).adds, f.err = 0 := fun f hf => by
    obtain ⟨n, hn, hfn⟩ := mem_all.1 ((mem_back hv hde).1 hf).1
    exact (hv.level hn hfn).1
  have hbd : ∀ d ∈ (back v x).dels, d.err = 0 := fun d hd' => by
    obtain ⟨f, hf, rfl⟩ := List.mem_map.1 hd'
    exact (PF.err_zero (hae f hf)).1
  have hberr : (back v x).err = 0 := err_mk14 (by simp [back]; omega) hl (Nat.zero_le _) (Nat.zero_le _) (Nat.zero_le _) hbd hbe
  obtain ⟨u1, hu1⟩ := dels_yes q1 hbd (fun d hd' => by
    obtain ⟨f, hf, rfl⟩ := List.mem_map.1 hd'
    exact ⟨f, (q2 f).2 (.inl hf), rfl, rfl⟩) (by
    show (x.adds.map fun f => (⟨f.level, f.num⟩ : PG)).Pairwise _
    rw [List.pairwise_map]
    exact hpa.1.imp (fun {a b} hab f hf hx => hab.1 (hx.1.symm.trans hf.1)))
  obtain ⟨r1, _, r3⟩ := dels_some q1 hbd hu1
  have hu01 : ∀ g, g ∈ u1.all ↔ g ∈ u0.all := fun g => by
    rw [r3 g, q2 g]
    constructor
    · rintro ⟨hg | hg, hx⟩
      · exact absurd ⟨rfl, rfl⟩ (hx ⟨g.level, g.num⟩ (List.mem_map.2 ⟨g, hg, rfl⟩))
      · exact hg
    · intro hg
      refine ⟨.inr hg, fun d hd' hm => ?_⟩
      obtain ⟨f, hf, rfl⟩ := List.mem_map.1 hd'
      exact (hpa.2 f hf g hg).1 hm.1
  have hadd : (addsV u1 (back v x).adds).1 = 0 := by
    rw [adds_iff r1 hbe]
    refine ⟨?_, fun f hf g hg => ?_⟩
    · show (x.dels.flatMap fun d => (v d.level.toNat).filter fun f => decide (f.num = d.num)).Pairwise Compat
      rw [List.pairwise_flatMap]
      refine ⟨fun d hd' => (lv_compat hv (lev_nat' (hde d hd')).1).sublist List.filter_sublist, ?_⟩
      refine List.Pairwise.imp_of_mem (fun {a b} ha' hb' hab y hy z hz => ?_) hpd
      simp only [List.mem_filter, decide_eq_true_eq] at hy hz
      obtain ⟨hna, hla⟩ := lev_nat' (hde a ha')
      obtain ⟨hnb, hlb⟩ := lev_nat' (hde b hb')
      have hya : Meant a y := ⟨hy.2, by rw [(hv.level hna hy.1).2]; omega⟩
      have hzb : Meant b z := ⟨hz.2, by rw [(hv.level hnb hz.1).2]; omega⟩
      refine hv.compat (mem_all.2 ⟨_, hna, hy.1⟩) (mem_all.2 ⟨_, hnb, hz.1⟩) (fun e => ?_)
      subst e
      exact hab y hya hzb
    · obtain ⟨hfv, d, hd', hm⟩ := (mem_back hv hde).1 hf
      have hg0 := (k3 g).1 ((hu01 g).1 hg)
      refine hv.compat hfv hg0.1 (fun e => ?_)
      subst e
      exact hg0.2 d hd' hm
  obtain ⟨s1, s2⟩ := adds_ok r1 hbe hadd
  refine ⟨(addsV u1 (back v x).adds).2, ?_, ?_⟩
  · rw [apply_mk q1 hberr hu1, ← hadd]
  · refine VOk.ext s1 hv (fun f => ?_)
    rw [s2 f, hu01 f, k3 f, mem_back hv hde]
    constructor
    · rintro (⟨h1, _⟩ | ⟨h1, _⟩) <;> exact h1
    · intro hf
      by_cases hm : ∃ d ∈ x.dels, Meant d f
      · exact .inl ⟨hf, hm⟩
      · exact .inr ⟨hf, fun d hd' hx => hm ⟨d, hd', hx⟩⟩
/-- An edit that adds one file. -/
def oneE (f : PF) : PE := ⟨0, 0, 0, [], [f]⟩
theorem oneE_err (f : PF) : (oneE f).err = f.err := by
  unfold PE.err oneE
  rw [if_neg (by simp), if_neg (by simp), if_neg (by simp)]
  simp only [errL]
  by_cases h : f.err = 0
  · simp [h]
  · simp [h]
theorem one_iff {v : PV} (h : VOk v) (f : PF) : (applyV v (oneE f)).1 = 0 ↔ f.err = 0 ∧ ∀ g ∈ v.all, Compat f g := by
  by_cases hf : f.err = 0
  · rw [apply_mk (x := oneE f) h (by rw [oneE_err]; exact hf) rfl, adds_iff h (by intro g hg; obtain rfl := List.mem_singleton.1 hg; exact hf)]
    simp [oneE, hf]
  · unfold applyV
    rw [if_neg (by rw [okV_iff.2 h]; decide), if_pos (by rw [oneE_err]; exact hf), oneE_err]
    simp [hf]
theorem one_ok {v w : PV} {f : PF} (h : applyV v (oneE f) = (0, w)) : VOk w ∧ ∀ g, g ∈ w.all ↔ g = f ∨ g ∈ v.all := by
  obtain ⟨h1, h2⟩ := apply_ok h
  refine ⟨h1, fun g => ?_⟩
  rw [h2 g]
  simp [oneE]
/-- All by one edit. -/
theorem all_ok {l : List PF} (hn : l.length ≤ 100) (he : ∀ f ∈ l, f.err = 0) (hp : l.Pairwise Compat) : ∃ w, applyV noV ⟨0, 0, 0, [], l⟩ = (0, w) ∧ VOk w ∧ ∀ g, g ∈ w.all ↔ g ∈ l := by
  have herr : (⟨0, 0, 0, [], l⟩ : PE).err = 0 := err_mk14 (Nat.zero_le _) hn (Nat.zero_le _) (Nat.zero_le _) (Nat.zero_le _) (by simp) he
  have h0 : (addsV noV l).1 = 0 := (adds_iff VOk.none he).2 ⟨hp, fun f _ g hg => by simp [PV.all, noV] at hg⟩
  have ha : applyV noV ⟨0, 0, 0, [], l⟩ = addsV noV l := apply_mk VOk.none herr rfl
  obtain ⟨k1, k2⟩ := adds_ok VOk.none he h0
  refine ⟨(addsV noV l).2, by rw [ha, ← h0], k1, fun g => ?_⟩
  rw [k2 g]
  simp [PV.all, noV]
end Go.Proofs.Ytcdfgcjecmpjhaa
