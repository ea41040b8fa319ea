/- Files in levels, plainly: which may be together, and what an edit makes of them; no program is spoken of here. -/
import Derived.Test.YtcdfgcjecmpjhaaE13Plain
namespace Go.Proofs.Ytcdfgcjecmpjhaa
set_option linter.unusedVariables false
set_option linter.unusedSimpArgs false
/-- One user is ahead of another. -/
abbrev ul (s t : ByteArray) : Prop := Op.bytesLess s.toList t.toList = true
theorem ul_trans {a b c : ByteArray} (h : ul a b) (k : ul b c) : ul a c := less_trans _ _ _ h k
theorem ul_irr (a : ByteArray) : ¬ ul a a := by unfold ul; rw [less_self]; decide
theorem ul_tri (a b : ByteArray) (h : ¬ ul a b) : a = b ∨ ul b a := by
  unfold ul at h ⊢
  rcases less_tri a.toList b.toList (by simpa using h) with h1 | h1
  · left
    rw [ByteArray.toList_eq, ByteArray.toList_eq] at h1
    cases a; cases b
    simp only [ByteArray.mk.injEq]
    exact Array.ext' h1
  · exact .inr h1
/-- a is not behind b, b is ahead of c. -/
theorem ul_le {a b c : ByteArray} (h : ¬ ul b a) (k : ul b c) : ul a c := by
  rcases ul_tri b a h with rfl | h1
  · exact k
  · exact ul_trans h1 k
theorem ul_le' {a b c : ByteArray} (k : ul a b) (h : ¬ ul c b) : ul a c := by
  rcases ul_tri c b h with rfl | h1
  · exact k
  · exact ul_trans k h1
/-- A file's last user is ahead of another one's first. -/
abbrev apartF (f g : PF) : Prop := ul f.large.user g.small.user
theorem PF.users {f : PF} (h : f.err = 0) : ¬ ul f.large.user f.small.user := by
  obtain ⟨_, _, _, _, _, hc⟩ := PF.err_zero h
  intro hu
  apply hc
  unfold IK.cmp
  have h1 := scmp_of_less hu
  rcases kcmp_spec f.large.user.toList f.small.user.toList (f.large.seq : Int) (f.small.seq : Int) f.large.kind f.small.kind with ⟨_, e⟩ | ⟨e, _⟩ | ⟨e, _⟩
  · rw [e, h1]
    decide
  · omega
  · omega
/-- How files of a level stand. -/
abbrev ahead (n : Nat) (f g : PF) : Prop := if n = 0 then g.num < f.num else apartF f g
theorem ahead_trans {n : Nat} {f g h : PF} (hg : g.err = 0) (h1 : ahead n f g) (h2 : ahead n g h) : ahead n f h := by
  unfold ahead at h1 h2 ⊢
  by_cases hn : n = 0
  · rw [if_pos hn] at h1 h2 ⊢
    omega
  · rw [if_neg hn] at h1 h2 ⊢
    exact ul_trans (ul_le' h1 (PF.users hg)) h2
theorem ahead_irr {n : Nat} {f : PF} (hf : f.err = 0) : ¬ ahead n f f := by
  unfold ahead
  by_cases hn : n = 0
  · rw [if_pos hn]
    omega
  · rw [if_neg hn]
    exact PF.users hf
theorem ahead_asym {n : Nat} {f g : PF} (hf : f.err = 0) (hg : g.err = 0) (h : ahead n f g) : ¬ ahead n g f := fun k => ahead_irr hf (ahead_trans hg h k)
/-- A row in a strict order is told by what is in it. -/
theorem row_ext {α : Type} {R : α → α → Prop} : ∀ {l l' : List α}, l.Pairwise R → l'.Pairwise R → (∀ x ∈ l, ∀ y ∈ l, R x y → ¬ R y x) → (∀ x, x ∈ l ↔ x ∈ l') → l = l'
  | [], [], _, _, _, _ => rfl
  | [], y :: r', _, _, _, h => by have := (h y).2 (by simp); simp at this
  | x :: r, [], _, _, _, h => by have := (h x).1 (by simp); simp at this
  | x :: r, y :: r', h1, h2, ha, h => by
    have p1 := List.pairwise_cons.1 h1
    have p2 := List.pairwise_cons.1 h2
    have hxy : x = y := by
      rcases List.mem_cons.1 ((h x).1 (by simp)) with e | e
      · exact e
      · rcases List.mem_cons.1 ((h y).2 (by simp)) with e' | e'
        · exact e'.symm
        · exact absurd (p2.1 x e) (ha x (by simp) y (by simp [e']) (p1.1 y e'))
    subst hxy
    have hnx : ∀ z, z ∈ r → z ≠ x := fun z hz e => by
      subst e
      exact ha z (by simp) z (by simp) (p1.1 z hz) (p1.1 z hz)
    have hnx' : ∀ z, z ∈ r' → z ≠ x := fun z hz e => by
      subst e
      exact ha z (by simp) z (by simp) (p2.1 z hz) (p2.1 z hz)
    rw [row_ext p1.2 p2.2 (fun a ha' b hb' => ha a (by simp [ha']) b (by simp [hb'])) (fun z => ?_)]
    constructor
    · intro hz
      rcases List.mem_cons.1 ((h z).1 (by simp [hz])) with e | e
      · exact absurd e (hnx z hz)
      · exact e
    · intro hz
      rcases List.mem_cons.1 ((h z).2 (by simp [hz])) with e | e
      · exact absurd e (hnx' z hz)
      · exact e
/-- The files of each level. -/
abbrev PV := Nat → List PF
def PV.all (v : PV) : List PF := v 0 ++ (v 1 ++ (v 2 ++ v 3))
structure LvOk (n : Nat) (l : List PF) : Prop where
  each : ∀ f ∈ l, f.err = 0 ∧ f.level = (n : Int)
  row : l.Pairwise (ahead n)
structure VOk (v : PV) : Prop where
  lv : ∀ n, n < 4 → LvOk n (v n)
  one : (v.all.map PF.num).Nodup
theorem mem_all {v : PV} {f : PF} : f ∈ v.all ↔ ∃ n, n < 4 ∧ f ∈ v n := by
  unfold PV.all
  simp only [List.mem_append]
  constructor
  · rintro (h | h | h | h)
    · exact ⟨0, by omega, h⟩
    · exact ⟨1, by omega, h⟩
    · exact ⟨2, by omega, h⟩
    · exact ⟨3, by omega, h⟩
  · rintro ⟨n, hn, h⟩
    have : n = 0 ∨ n = 1 ∨ n = 2 ∨ n = 3 := by omega
    rcases this with rfl | rfl | rfl | rfl
    · exact .inl h
    · exact .inr (.inl h)
    · exact .inr (.inr (.inl h))
    · exact .inr (.inr (.inr h))
theorem VOk.level {v : PV} (h : VOk v) {n : Nat} (hn : n < 4) {f : PF} (hf : f ∈ v n) : f.err = 0 ∧ f.level = (n : Int) := (h.lv n hn).each f hf
/-- Files that may be together are told by which there are. -/
theorem VOk.ext {v w : PV} (h : VOk v) (k : VOk w) (e : ∀ f, f ∈ v.all ↔ f ∈ w.all) : ∀ n, n < 4 → v n = w n := by
  intro n hn
  refine row_ext (h.lv n hn).row (k.lv n hn).row (fun x hx y hy => ahead_asym (h.level hn hx).1 (h.level hn hy).1) (fun f => ?_)
  constructor
  · intro hf
    obtain ⟨m, hm, hf'⟩ := mem_all.1 ((e f).1 (mem_all.2 ⟨n, hn, hf⟩))
    have h1 := (h.level hn hf).2
    have h2 := (k.level hm hf').2
    obtain rfl : n = m := by omega
    exact hf'
  · intro hf
    obtain ⟨m, hm, hf'⟩ := mem_all.1 ((e f).2 (mem_all.2 ⟨n, hn, hf⟩))
    have h1 := (k.level hn hf).2
    have h2 := (h.level hm hf').2
    obtain rfl : n = m := by omega
    exact hf'
def PV.upd (v : PV) (n : Nat) (l : List PF) : PV := fun m => if m = n then l else v m
theorem PV.upd_same (v : PV) (n : Nat) (l : List PF) : v.upd n l n = l := by simp [PV.upd]
theorem PV.upd_other (v : PV) {n m : Nat} (l : List PF) (h : m ≠ n) : v.upd n l m = v m := by simp [PV.upd, h]
/-- A file is laid into its place. -/
def insF (n : Nat) (f : PF) : List PF → List PF
  | [] => [f]
  | g :: r => if ahead n f g then f :: g :: r else g :: insF n f r
theorem mem_insF {n : Nat} {f g : PF} : ∀ {l : List PF}, g ∈ insF n f l ↔ g = f ∨ g ∈ l
  | [] => by simp [insF]
  | x :: r => by
    unfold insF
    split
    · simp
    · rw [List.mem_cons, mem_insF, List.mem_cons]
      constructor
      · rintro (h | h | h)
        · exact .inr (.inl h)
        · exact .inl h
        · exact .inr (.inr h)
      · rintro (h | h | h)
        · exact .inr (.inl h)
        · exact .inl h
        · exact .inr (.inr h)
theorem insF_perm {n : Nat} {f : PF} : ∀ {l : List PF}, (insF n f l).Perm (f :: l)
  | [] => List.Perm.refl _
  | x :: r => by
    unfold insF
    split
    · exact List.Perm.refl _
    · exact ((insF_perm (n := n) (f := f) (l := r)).cons x).trans (List.Perm.swap f x r)
theorem insF_row {n : Nat} {f : PF} (hf : f.err = 0) : ∀ {l : List PF}, (∀ g ∈ l, g.err = 0) → (∀ g ∈ l, ahead n f g ∨ ahead n g f) → l.Pairwise (ahead n) → (insF n f l).Pairwise (ahead n)
  | [], _, _, _ => by simp [insF]
  | x :: r, he, hc, hp => by
    have p := List.pairwise_cons.1 hp
    unfold insF
    split
    · rename_i hx
      refine List.pairwise_cons.2 ⟨fun g hg => ?_, hp⟩
      rcases List.mem_cons.1 hg with rfl | hg
      · exact hx
      · exact ahead_trans (he x (by simp)) hx (p.1 g hg)
    · rename_i hx
      refine List.pairwise_cons.2 ⟨fun g hg => ?_, insF_row hf (fun g hg => he g (by simp [hg])) (fun g hg => hc g (by simp [hg])) p.2⟩
      rcases mem_insF.1 hg with rfl | hg
      · exact (hc x (by simp)).resolve_left hx
      · exact p.1 g hg
theorem upd_all {v : PV} {n : Nat} (hn : n < 4) {l : List PF} {f : PF} : f ∈ (v.upd n l).all ↔ f ∈ l ∨ ∃ m, m < 4 ∧ m ≠ n ∧ f ∈ v m := by
  rw [mem_all]
  constructor
  · rintro ⟨m, hm, hf⟩
    by_cases e : m = n
    · subst e
      rw [PV.upd_same] at hf
      exact .inl hf
    · rw [PV.upd_other _ _ e] at hf
      exact .inr ⟨m, hm, e, hf⟩
  · rintro (hf | ⟨m, hm, e, hf⟩)
    · exact ⟨n, hn, by rw [PV.upd_same]; exact hf⟩
    · exact ⟨m, hm, by rw [PV.upd_other _ _ e]; exact hf⟩
theorem upd_perm {v : PV} {n : Nat} (hn : n < 4) {l l' : List PF} (h : l.Perm l') : (v.upd n l).all.Perm (v.upd n l').all := by
  have hk : ∀ m, (v.upd n l m).Perm (v.upd n l' m) := fun m => by
    by_cases e : m = n
    · subst e
      rw [PV.upd_same, PV.upd_same]
      exact h
    · rw [PV.upd_other _ _ e, PV.upd_other _ _ e]
  unfold PV.all
  exact (hk 0).append ((hk 1).append ((hk 2).append (hk 3)))
theorem upd_cons {v : PV} {n : Nat} (hn : n < 4) {f : PF} {l : List PF} : (v.upd n (f :: l)).all.Perm (f :: (v.upd n l).all) := by
  have : n = 0 ∨ n = 1 ∨ n = 2 ∨ n = 3 := by omega
  unfold PV.all PV.upd
  rcases this with rfl | rfl | rfl | rfl
  · simp
  · simp only [Nat.reduceEqDiff, if_false, if_true]
    have := (List.perm_middle (a := f) (l₁ := v 0) (l₂ := l ++ (v 2 ++ v 3)))
    simp only [List.append_assoc, List.cons_append] at this ⊢
    exact this
  · simp only [Nat.reduceEqDiff, if_false, if_true]
    have := (List.perm_middle (a := f) (l₁ := v 0 ++ v 1) (l₂ := l ++ v 3))
    simp only [List.append_assoc, List.cons_append] at this ⊢
    exact this
  · simp only [Nat.reduceEqDiff, if_false, if_true]
    have := (List.perm_middle (a := f) (l₁ := v 0 ++ (v 1 ++ v 2)) (l₂ := l))
    simp only [List.append_assoc] at this ⊢
    exact this
theorem upd_self (v : PV) (n : Nat) : v.upd n (v n) = v := by
  funext m
  by_cases e : m = n
  · subst e; rw [PV.upd_same]
  · rw [PV.upd_other _ _ e]
/-- A file that may come to others. -/
structure Fits (v : PV) (f : PF) (n : Nat) : Prop where
  err : f.err = 0
  level : f.level = (n : Int)
  num : ∀ g ∈ v.all, g.num ≠ f.num
  over : n ≠ 0 → ∀ g ∈ v n, apartF f g ∨ apartF g f
theorem VOk.add {v : PV} (h : VOk v) {f : PF} {n : Nat} (hn : n < 4) (hf : Fits v f n) : VOk (v.upd n (insF n f (v n))) := by
  have hl := h.lv n hn
  refine ⟨fun m hm => ?_, ?_⟩
  · by_cases e : m = n
    · subst e
      rw [PV.upd_same]
      refine ⟨fun g hg => ?_, insF_row hf.err (fun g hg => (hl.each g hg).1) (fun g hg => ?_) hl.row⟩
      · rcases mem_insF.1 hg with rfl | hg
        · exact ⟨hf.err, hf.level⟩
        · exact hl.each g hg
      · unfold ahead
        by_cases h0 : m = 0
        · rw [if_pos h0, if_pos h0]
          have := hf.num g (mem_all.2 ⟨m, hm, hg⟩)
          omega
        · rw [if_neg h0, if_neg h0]
          exact hf.over h0 g hg
    · rw [PV.upd_other _ _ e]
      exact h.lv m hm
  · have hp : (v.upd n (insF n f (v n))).all.Perm (f :: v.all) := by
      have h1 := (upd_perm (v := v) hn (insF_perm (n := n) (f := f) (l := v n))).trans (upd_cons hn)
      rw [upd_self] at h1
      exact h1
    rw [(hp.map PF.num).nodup_iff, List.map_cons, List.nodup_cons]
    refine ⟨fun hm => ?_, h.one⟩
    obtain ⟨g, hg, e⟩ := List.mem_map.1 hm
    exact hf.num g hg e
theorem add_all {v : PV} {f g : PF} {n : Nat} (hn : n < 4) : g ∈ (v.upd n (insF n f (v n))).all ↔ g = f ∨ g ∈ v.all := by
  rw [upd_all hn, mem_insF, mem_all]
  constructor
  · rintro ((h | h) | ⟨m, hm, _, h⟩)
    · exact .inl h
    · exact .inr ⟨n, hn, h⟩
    · exact .inr ⟨m, hm, h⟩
  · rintro (h | ⟨m, hm, h⟩)
    · exact .inl (.inl h)
    · by_cases e : m = n
      · subst e; exact .inl (.inr h)
      · exact .inr ⟨m, hm, e, h⟩
/-- Files but those of a number. -/
def dropF (num : Nat) (l : List PF) : List PF := l.filter fun f => decide (f.num ≠ num)
theorem mem_dropF {num : Nat} {l : List PF} {f : PF} : f ∈ dropF num l ↔ f ∈ l ∧ f.num ≠ num := by
  unfold dropF
  rw [List.mem_filter]
  simp
theorem VOk.less {v w : PV} (h : VOk v) (hs : ∀ n, n < 4 → (w n).Sublist (v n)) : VOk w := by
  refine ⟨fun n hn => ⟨fun f hf => (h.lv n hn).each f ((hs n hn).subset hf), (h.lv n hn).row.sublist (hs n hn)⟩, h.one.sublist (List.Sublist.map _ ?_)⟩
  unfold PV.all
  exact (hs 0 (by omega)).append ((hs 1 (by omega)).append ((hs 2 (by omega)).append (hs 3 (by omega))))
theorem VOk.del {v : PV} (h : VOk v) (n num : Nat) : VOk (v.upd n (dropF num (v n))) := by
  refine h.less fun m hm => ?_
  by_cases e : m = n
  · subst e
    rw [PV.upd_same]
    exact List.filter_sublist
  · rw [PV.upd_other _ _ e]
    exact List.Sublist.refl _
end Go.Proofs.Ytcdfgcjecmpjhaa
