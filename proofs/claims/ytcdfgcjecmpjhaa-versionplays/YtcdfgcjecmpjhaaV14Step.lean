/- What each step of an edit makes of the map of levels, plainly. -/
import Derived.Test.YtcdfgcjecmpjhaaV14Lev
namespace Go.Proofs.Ytcdfgcjecmpjhaa
open Go.RowKit
set_option linter.unusedVariables false
set_option linter.unusedSimpArgs false
theorem VOk.same {v : PV} (h : VOk v) {f g : PF} (hf : f ∈ v.all) (hg : g ∈ v.all) (e : g.num = f.num) : f = g := by
  apply Classical.byContradiction
  intro hne
  exact (h.compat hf hg hne).1 e
theorem Tells.congr {m : Nat → Option Int} {l l' : List PF} (h : Tells m l) (he : ∀ f, f ∈ l ↔ f ∈ l') : Tells m l' := by
  intro q x
  rw [h q x]
  constructor
  · rintro ⟨f, hf, h1⟩
    exact ⟨f, (he f).1 hf, h1⟩
  · rintro ⟨f, hf, h1⟩
    exact ⟨f, (he f).2 hf, h1⟩
theorem Tells.isSome {m : Nat → Option Int} {l : List PF} (h : Tells m l) (q : Nat) : (m q).isSome = true ↔ ∃ f ∈ l, f.num = q := by
  rw [Option.isSome_iff_exists]
  constructor
  · rintro ⟨x, hx⟩
    obtain ⟨f, hf, h1, _⟩ := (h q x).1 hx
    exact ⟨f, hf, h1⟩
  · rintro ⟨f, hf, h1⟩
    exact ⟨f.level, (h q f.level).2 ⟨f, hf, h1, rfl⟩⟩
theorem del_yes {u : PV} (hu : VOk u) {m : Nat → Option Int} (ht : Tells m u.all) {d : PG} (hd : d.err = 0) (hm : m d.num = some d.level) : ∃ u', delV u d = some u' ∧ Tells (fun p => if p = d.num then none else m p) u'.all ∧ VOk u' ∧ ∀ g ∈ u'.all, g ∈ u.all := by
  obtain ⟨f, hf, h1, h2⟩ := (ht d.num d.level).1 hm
  cases hx : delV u d with
  | none => exact absurd ⟨h1, h2⟩ (delV_none hu hd hx f hf)
  | some u' =>
    obtain ⟨k1, _, k3⟩ := delV_some hu hd hx
    refine ⟨u', rfl, fun q x => ?_, k1, fun g hg => ((k3 g).1 hg).1⟩
    by_cases e : q = d.num
    · subst e
      simp only [if_true]
      constructor
      · intro hc
        cases hc
      · rintro ⟨g, hg, hg1, hg2⟩
        have hg' := (k3 g).1 hg
        have := hu.same hf hg'.1 (by rw [hg1, h1])
        subst this
        exact absurd ⟨h1, h2⟩ hg'.2
    · simp only [if_neg e]
      rw [ht q x]
      constructor
      · rintro ⟨g, hg, hg1, hg2⟩
        exact ⟨g, (k3 g).2 ⟨hg, fun hm => e (by rw [← hg1, hm.1])⟩, hg1, hg2⟩
      · rintro ⟨g, hg, hg1⟩
        exact ⟨g, ((k3 g).1 hg).1, hg1⟩
theorem del_no {u : PV} (hu : VOk u) {m : Nat → Option Int} (ht : Tells m u.all) {d : PG} (hd : d.err = 0) (hm : m d.num ≠ some d.level) : delV u d = none := by
  cases hx : delV u d with
  | none => rfl
  | some u' =>
    obtain ⟨_, ⟨f, hf, h1, h2⟩, _⟩ := delV_some hu hd hx
    exact absurd ((ht d.num d.level).2 ⟨f, hf, h1, h2⟩) hm
theorem keep_eq {v u : PV} (hv : VOk v) (hu : VOk u) (hs : ∀ g ∈ u.all, g ∈ v.all) {m : Nat → Option Int} (ht : Tells m u.all) {n : Nat} (hn : n < 4) : keepF m (v n) = u n := by
  refine row_ext (R := ahead n) ((hv.lv n hn).row.sublist List.filter_sublist) (hu.lv n hn).row (fun x hx y hy => ?_) (fun f => ?_)
  · have hx' := (List.mem_filter.1 hx).1
    have hy' := (List.mem_filter.1 hy).1
    exact ahead_asym (hv.level hn hx').1 (hv.level hn hy').1
  · unfold keepF
    rw [List.mem_filter, ht.isSome]
    constructor
    · rintro ⟨hf, g, hg, e⟩
      have := hv.same (mem_all.2 ⟨n, hn, hf⟩) (hs g hg) e
      subst this
      obtain ⟨k, hk, hgk⟩ := mem_all.1 hg
      have h1 := (hv.level hn hf).2
      have h2 := (hu.level hk hgk).2
      obtain rfl : n = k := by omega
      exact hgk
    · intro hf
      have hfa : f ∈ u.all := mem_all.2 ⟨n, hn, hf⟩
      refine ⟨?_, f, hfa, rfl⟩
      obtain ⟨k, hk, hfk⟩ := mem_all.1 (hs f hfa)
      have h1 := (hu.level hn hf).2
      have h2 := (hv.level hk hfk).2
      obtain rfl : n = k := by omega
      exact hfk
theorem add_same {u : PV} {m : Nat → Option Int} (ht : Tells m u.all) {f : PF} (hm : (m f.num).isSome = true) : addE u f = 142 := by
  obtain ⟨g, hg, e⟩ := (ht.isSome f.num).1 hm
  unfold addE
  rw [if_pos]
  simp only [List.any_eq_true, decide_eq_true_eq]
  exact ⟨g, hg, e⟩
theorem add_new {u : PV} {m : Nat → Option Int} (ht : Tells m u.all) {f : PF} (hm : (m f.num).isSome = false) : ∀ g ∈ u.all, g.num ≠ f.num := fun g hg e => by
  have := (ht.isSome f.num).2 ⟨g, hg, e⟩
  rw [hm] at this
  cases this
theorem add_zero {u : PV} (hu : VOk u) {m : Nat → Option Int} (ht : Tells m u.all) {f : PF} (hf : f.err = 0) (hm : (m f.num).isSome = false) (hc : ∀ g ∈ u f.level.toNat, ahead f.level.toNat f g ∨ ahead f.level.toNat g f) : addE u f = 0 ∧ VOk (addV u f) ∧ Tells (fun p => if p = f.num then some f.level else m p) (addV u f).all := by
  have hnew := add_new ht hm
  obtain ⟨hn, hl⟩ := lev_nat hf
  have hfit : Fits u f f.level.toNat := by
    refine ⟨hf, hl, hnew, fun h0 g hg => ?_⟩
    have := hc g hg
    unfold ahead at this
    rw [if_neg h0, if_neg h0] at this
    exact this
  refine ⟨(addE_fits hu hf).2 hfit, hu.add hn hfit, ?_⟩
  refine (ht.put hnew).congr (fun g => ?_)
  rw [addV_all hf, List.mem_append, List.mem_singleton]
  exact Or.comm
theorem add_over {u : PV} (hu : VOk u) {m : Nat → Option Int} (ht : Tells m u.all) {f : PF} (hf : f.err = 0) (hm : (m f.num).isSome = false) (hc : ¬ ∀ g ∈ u f.level.toNat, ahead f.level.toNat f g ∨ ahead f.level.toNat g f) : addE u f = 143 := by
  have hnew := add_new ht hm
  obtain ⟨hn, hl⟩ := lev_nat hf
  have h0 : f.level.toNat ≠ 0 := fun h0 => hc (fun g hg => by
    have := hnew g (mem_all.2 ⟨_, hn, hg⟩)
    unfold ahead
    rw [if_pos h0, if_pos h0]
    omega)
  unfold addE
  rw [if_neg, if_pos]
  · refine ⟨by omega, ?_⟩
    apply Classical.byContradiction
    intro hno
    apply hc
    intro g hg
    unfold ahead
    rw [if_neg h0, if_neg h0]
    refine (hasU_no hf (hu.level hn hg).1).1 ?_
    cases hx : hasU g f.small.user f.large.user with
    | false => rfl
    | true =>
      exfalso
      apply hno
      simp only [List.any_eq_true]
      exact ⟨g, hg, hx⟩
  · simp only [List.any_eq_true, decide_eq_true_eq]
    rintro ⟨g, hg, e⟩
    exact hnew g hg e
theorem dels_step {u : PV} {l : List PG} {i : Nat} (hi : i < l.length) : delsV u (l.drop i) = (delV u l[i]).bind fun u' => delsV u' (l.drop (i + 1)) := by
  rw [List.drop_eq_getElem_cons hi]
  rfl
theorem adds_step {u : PV} {l : List PF} {i : Nat} (hi : i < l.length) : addsV u (l.drop i) = if addE u l[i] ≠ 0 then (addE u l[i], noV) else addsV (addV u l[i]) (l.drop (i + 1)) := by
  rw [List.drop_eq_getElem_cons hi]
  rfl
theorem apply_form {v : PV} {x : PE} (h : ¬ VOk v) : applyV v x = (140, noV) := by
  unfold applyV
  rw [if_pos]
  rw [← Bool.not_eq_true]
  exact fun hx => h (okV_iff.1 hx)
theorem apply_err {v : PV} {x : PE} (h : VOk v) (he : x.err ≠ 0) : applyV v x = (x.err, noV) := by
  unfold applyV
  rw [if_neg (by rw [okV_iff.2 h]; decide), if_pos he]
theorem apply_gone {v : PV} {x : PE} (h : VOk v) (he : x.err = 0) (hd : delsV v x.dels = none) : applyV v x = (141, noV) := by
  unfold applyV
  rw [if_neg (by rw [okV_iff.2 h]; decide), if_neg (by omega), hd]
theorem addV_len {u : PV} {f : PF} (hf : f.err = 0) : (addV u f).all.length = u.all.length + 1 := by
  obtain ⟨hn, hl⟩ := lev_nat hf
  have h1 := (upd_perm (v := u) hn (insF_perm (n := f.level.toNat) (f := f) (l := u f.level.toNat))).trans (upd_cons hn)
  rw [upd_self] at h1
  have := h1.length_eq
  simpa [addV] using this
/-- Rows of different levels lie apart. -/
theorem rows_apart {w : World} {B B' : Nat} {a a' : Option Addr} {n n' c c' : Nat} {l l' : List PF} {i j : Int} (h : OwnF w B a n c l) (h' : OwnF w B' a' n' c' l') (hl : ∀ f ∈ l, f.level = i) (hl' : ∀ f ∈ l', f.level = j) (hij : i ≠ j) (hne : l ≠ []) (hne' : l' ≠ []) : ∀ k, blkOf a = some k → blkOf a' ≠ some k := by
  intro k hk hk'
  have hn : 0 < n := by rw [← h.size]; exact List.length_pos_iff.2 hne
  have hn' : 0 < n' := by rw [← h'.size]; exact List.length_pos_iff.2 hne'
  obtain ⟨_, _, _, h4⟩ := row_addr h.row
  obtain ⟨_, _, _, h4'⟩ := row_addr h'.row
  obtain ⟨g, rfl⟩ := h4 hn
  obtain ⟨g', rfl⟩ := h4' hn'
  have e1 : g = k := by simpa [blkOf] using hk
  have e2 : g' = k := by simpa [blkOf] using hk'
  subst e1
  subst e2
  have x1 := h.row.cellAt 0 (by omega)
  have x2 := h'.row.cellAt 0 (by omega)
  rw [x1] at x2
  cases l with
  | nil => exact hne rfl
  | cons f r =>
    cases l' with
    | nil => exact hne' rfl
    | cons f' r' =>
      simp [fc] at x2
      exact hij (by rw [← hl f (by simp), ← hl' f' (by simp), x2])
end Go.Proofs.Ytcdfgcjecmpjhaa
