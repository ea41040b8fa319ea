/- How a file system in memory turns: at a change's beginning, with a change of names, with a file's bytes. -/
import Derived.Test.YtkelahekfkhcfaaBegin
import Derived.Test.YtkelahekfkhcfaaRen
namespace Go.Proofs.Ytkelahekfkhcfaa
open Go.RowKit Go.Maps
theorem ask_same (S : PFs) : S.ask.1.names = S.names ∧ S.ask.1.lasts = S.lasts ∧ S.ask.1.since = S.since ∧ S.ask.1.files = S.files ∧ S.ask.1.quota = S.quota ∧ S.ask.1.asked = S.asked + 1 := by
  unfold PFs.ask
  split
  · exact ⟨rfl, rfl, rfl, rfl, rfl, rfl⟩
  · split
    · split <;> exact ⟨rfl, rfl, rfl, rfl, rfl, rfl⟩
    · exact ⟨rfl, rfl, rfl, rfl, rfl, rfl⟩
theorem bulk_files {S S' : PFs} (h : S'.files = S.files) (l : List PName) : S'.bulk l = S.bulk l := by
  rw [bulk_eq, bulk_eq]
  unfold PFs.fileOf
  rw [h]
theorem ask_cells (S : PFs) (g : Gh) : (cellsOf S g).ask = (cellsOf S.ask.1 g, ((S.ask.2 : Nat) : Int)) := by
  obtain ⟨q, n, l, s⟩ := ask_same S
  have hb := bulk_files s.1 S.ask.1.names
  rw [q] at hb
  unfold cellsOf FsC.ask
  rw [q, l, s.2.1, s.2.2, hb]
  unfold PFs.ask PFs.off
  cases hf : S.fused <;> cases hs : S.fails <;> by_cases h0 : S.fuse = 0 <;> by_cases h1 : S.fail = 0 <;> simp [h0, h1]
theorem Inv.begun {S : PFs} (h : Inv S) (ha : S.asked < 1000000) : Inv S.ask.1 := by
  obtain ⟨q, n, l, s, t, u⟩ := ask_same S
  have hfo : ∀ k, S.ask.1.fileOf k = S.fileOf k := fun k => by unfold PFs.fileOf; rw [s]
  refine ⟨by omega, by rw [t]; exact h.quota, ?_, ?_, by rw [s, n]; exact h.lasts, by rw [s, n, l, q]; exact h.chain, by have := h.count; rw [n, l]; omega, fun k => by rw [hfo]; exact h.lens k, fun k => by rw [hfo]; exact h.last k, by rw [n, l]; exact h.fresh⟩
  · have := h.fuse
    unfold PFs.ask PFs.off
    cases hf : S.fused <;> cases hs : S.fails <;> by_cases h0 : S.fuse = 0 <;> by_cases h1 : S.fail = 0 <;> simp [hf, h0, h1] at this ⊢ <;> omega
  · have := h.fail
    unfold PFs.ask PFs.off
    cases hf : S.fused <;> cases hs : S.fails <;> by_cases h0 : S.fuse = 0 <;> by_cases h1 : S.fail = 0 <;> simp [hs, h0, h1] at this ⊢ <;> omega
theorem begin_at {w : World} {p : Nat} {S : PFs} {g : Gh} (h : FsAt w p S g) (hI : Inv S) (ha : S.asked < 1000000) : Calls Try.prog 45 #[at_ p] w fun e w' => e = .returned (.int .i64 (S.ask.2 : Nat)) ∧ FsAt w' p S.ask.1 g ∧ Inv S.ask.1 ∧ Chg (fun k => k = p) w w' := by
  obtain ⟨q, n, l, s, _⟩ := ask_same S
  refine (begin_any w p (cellsOf S g) h.fs ?_ ?_ ?_).mono ?_
  · have := hI.asked
    simp [cellsOf]
    omega
  · have := hI.fuse
    unfold cellsOf
    cases hf : S.fused
    · simp
    · simpa using this hf
  · have := hI.fail
    unfold cellsOf
    cases hf : S.fails
    · simp
    · simpa using this hf
  · rw [ask_cells]
    rintro e w' ⟨rfl, hb, hg⟩
    exact ⟨rfl, h.frame (fun k hk => hg.block k (h.foot_lt (.inr hk)) (fun e => h.inner_ne hk (Option.some.inj e))) hb q n l s, hI.begun ha, (Chg.grown hg).wide fun k _ e => (Option.some.inj e).symm⟩
/-- A change of names. -/
theorem FsAt.changed {w w' : World} {p : Nat} {S : PFs} {g : Gh} (h : FsAt w p S g) {c : PChange} (hok : OkC S.files.length S.names c) (hlive : c.kind = 1 → g.live c.file) {m gr cap : Nat} (hm : g.mn = some m ∨ (g.mn = none ∧ w.heap.size ≤ m)) (hn : NmAt w' (some m) g.blk (changedN S.names c))
    (hr : w'.ownsRow 0 74 3 (.slice (some ⟨gr, 0, none⟩) (S.since.length + 1) cap) (S.since.length + 1) (cellsC g.blk (S.since ++ [c]))) {S' : PFs} (e1 : S'.names = changedN S.names c) (e2 : S'.lasts = S.lasts) (e3 : S'.since = S.since ++ [c]) (e4 : S'.files = S.files)
    (hfs : FsB w' p (cellsOf S' { g with mn := some m, sa := some ⟨gr, 0, none⟩, sc := cap })) (hc : Chg (fun i => i = p ∨ g.mn = some i ∨ g.srow = some i) w w') : FsAt w' p S' { g with mn := some m, sa := some ⟨gr, 0, none⟩, sc := cap } where
  fs := hfs
  nm := by rw [e1]; exact hn
  lm := by
    rw [e2]
    refine NmAt.kept h.lm fun b e => hc.block b (tag_lt (h.tagL e)) ?_
    rintro (rfl | e' | e')
    · exact h.inner_ne (.inr (.inl e)) rfl
    · exact h.apart b e' e
    · exact tag_ne (h.tagL e) (h.tagS e') (by decide) rfl
  apart := fun b e1 e2 => by
    obtain rfl := Option.some.inj e1
    rcases hm with e | ⟨_, e⟩
    · exact h.apart _ e e2
    · exact absurd (tag_lt (h.tagL e2)) (by omega)
  sn := by
    rw [e3, List.length_append]
    exact hr
  files := fun k hk => by
    have : S'.fileOf k = S.fileOf k := by unfold PFs.fileOf; rw [e4]
    rw [this]
    refine (h.files k hk).kept (hc.block _ (tag_lt (h.tagF hk)) ?_) fun b e => hc.block b (tag_lt (h.tagR hk e)) ?_
    · rintro (e | e | e)
      · exact h.inner_ne (.inr (.inr (.inr ⟨k, hk, .inl rfl⟩))) e
      · exact tag_ne (h.tagN e) (h.tagF hk) (by decide) rfl
      · exact tag_ne (h.tagS e) (h.tagF hk) (by decide) rfl
    · rintro (e' | e' | e')
      · exact h.inner_ne (.inr (.inr (.inr ⟨k, hk, .inr e⟩))) e'
      · exact tag_ne (h.tagN e') (h.tagR hk e) (by decide) rfl
      · exact tag_ne (h.tagS e') (h.tagR hk e) (by decide) rfl
  inj := h.inj
  liveN := by
    rw [e1]
    exact Chain.live (K := S.files.length) (s := [c]) ⟨hok, rfl⟩ h.liveN (fun d hd => by rw [List.mem_singleton.1 hd]; exact hlive)
  liveL := by rw [e2]; exact h.liveL
  liveS := by
    rw [e3]
    intro d hd
    rcases List.mem_append.1 hd with hd | hd
    · exact h.liveS d hd
    · rw [List.mem_singleton.1 hd]
      exact hlive
/-- Which blocks turn, and which are new. -/
structure Turn (p : Nat) (g g' : Gh) (w w' : World) : Prop where
  chg : Chg (Foot p g) w w'
  foot : ∀ k, Inner g' k → Inner g k ∨ w.heap.size ≤ k
theorem Turn.same {p : Nat} {g : Gh} {w w' : World} (h : Chg (Foot p g) w w') : Turn p g g w w' := ⟨h, fun _ hk => .inl hk⟩
theorem Turn.changed {w w' : World} {p : Nat} {g : Gh} {m gr cap : Nat} (hm : g.mn = some m ∨ (g.mn = none ∧ w.heap.size ≤ m)) (hg : g.srow = some gr ∨ w.heap.size ≤ gr) (hc : Chg (fun i => i = p ∨ g.mn = some i ∨ g.srow = some i) w w') : Turn p g { g with mn := some m, sa := some ⟨gr, 0, none⟩, sc := cap } w w' where
  chg := hc.wide fun k _ e => e.elim .inl (fun e => .inr (e.elim .inl (fun e => .inr (.inr (.inl e)))))
  foot := by
    rintro k (e | e | e | e)
    · obtain rfl := Option.some.inj e
      exact hm.imp .inl (fun h => h.2)
    · exact .inl (.inr (.inl e))
    · obtain rfl := Option.some.inj (show some gr = some k from e)
      exact hg.imp (fun h => .inr (.inr (.inl h))) id
    · exact .inl (.inr (.inr (.inr e)))
/-- One file's bytes. -/
def Gh.put (g : Gh) (k : Nat) (f : FG) : Gh := { g with fl := fun j => if j = k then f else g.fl j }
theorem Gh.put_blk (g : Gh) {k : Nat} {f : FG} (h : f.blk = (g.fl k).blk) : (g.put k f).blk = g.blk := by
  funext j
  unfold Gh.blk Gh.put
  by_cases e : j = k
  · subst e
    simp [h]
  · simp [e]
theorem FsAt.file {w w' : World} {p : Nat} {S S' : PFs} {g : Gh} (h : FsAt w p S g) {k : Nat} (hk : g.live k) {f : FG} (hblk : f.blk = (g.fl k).blk) (hrow : ∀ b, f.row = some b → (g.fl k).row = some b ∨ w.heap.size ≤ b) (hf : FileAt w' f (S'.fileOf k)) (ho : ∀ j, j ≠ k → S'.fileOf j = S.fileOf j)
    (e1 : S'.names = S.names) (e2 : S'.lasts = S.lasts) (e3 : S'.since = S.since) (hfs : FsB w' p (cellsOf S' g)) (hc : Chg (fun i => i = p ∨ i = (g.fl k).blk ∨ (g.fl k).row = some i) w w') : FsAt w' p S' (g.put k f) where
  fs := hfs
  nm := by
    rw [e1, g.put_blk hblk]
    refine NmAt.kept h.nm fun b e => hc.block b (tag_lt (h.tagN e)) ?_
    rintro (e' | e' | e')
    · exact h.inner_ne (.inl e) e'
    · exact tag_ne (h.tagN e) (h.tagF hk) (by decide) e'
    · exact tag_ne (h.tagN e) (h.tagR hk e') (by decide) rfl
  lm := by
    rw [e2, g.put_blk hblk]
    refine NmAt.kept h.lm fun b e => hc.block b (tag_lt (h.tagL e)) ?_
    rintro (e' | e' | e')
    · exact h.inner_ne (.inr (.inl e)) e'
    · exact tag_ne (h.tagL e) (h.tagF hk) (by decide) e'
    · exact tag_ne (h.tagL e) (h.tagR hk e') (by decide) rfl
  apart := h.apart
  sn := by
    rw [e3, g.put_blk hblk]
    refine row_same h.sn fun b e => ?_
    have e : g.srow = some b := by rw [← g.srow_eq]; exact e
    refine hc.block b (tag_lt (h.tagS e)) ?_
    rintro (e' | e' | e')
    · exact h.inner_ne (.inr (.inr (.inl e))) e'
    · exact tag_ne (h.tagS e) (h.tagF hk) (by decide) e'
    · exact tag_ne (h.tagS e) (h.tagR hk e') (by decide) rfl
  files := fun j hj => by
    by_cases e : j = k
    · subst e
      have : (g.put j f).fl j = f := by simp [Gh.put]
      rw [this]
      exact hf
    · have : (g.put k f).fl j = g.fl j := by simp [Gh.put, e]
      rw [this, ho j e]
      have hj' : g.live j := hj
      refine (h.files j hj').kept (hc.block _ (tag_lt (h.tagF hj')) ?_) fun b eb => hc.block b (tag_lt (h.tagR hj' eb)) ?_
      · rintro (e' | e' | e')
        · exact h.inner_ne (.inr (.inr (.inr ⟨j, hj', .inl rfl⟩))) e'
        · exact (h.inj j k hj' hk e).1 e'
        · exact tag_ne (h.tagF hj') (h.tagR hk e') (by decide) rfl
      · rintro (e' | e' | e')
        · exact h.inner_ne (.inr (.inr (.inr ⟨j, hj', .inr eb⟩))) e'
        · exact tag_ne (h.tagR hj' eb) (h.tagF hk) (by decide) e'
        · exact (h.inj j k hj' hk e).2 b eb e'
  inj := fun i j hi hj hij => by
    have hi' : g.live i := hi
    have hj' : g.live j := hj
    have ei : ((g.put k f).fl i).blk = (g.fl i).blk := congrFun (g.put_blk hblk) i
    have ej : ((g.put k f).fl j).blk = (g.fl j).blk := congrFun (g.put_blk hblk) j
    rw [ei, ej]
    refine ⟨(h.inj i j hi' hj' hij).1, fun b h1 h2 => ?_⟩
    by_cases e : i = k
    · subst e
      have a1 : ((g.put i f).fl i) = f := by simp [Gh.put]
      have a2 : ((g.put i f).fl j) = g.fl j := by simp [Gh.put, Ne.symm hij]
      rw [a1] at h1
      rw [a2] at h2
      rcases hrow b h1 with h3 | h3
      · exact (h.inj i j hi' hj' hij).2 b h3 h2
      · exact absurd (tag_lt (h.tagR hj' h2)) (by omega)
    · have a1 : ((g.put k f).fl i) = g.fl i := by simp [Gh.put, e]
      rw [a1] at h1
      by_cases e2 : j = k
      · subst e2
        have a2 : ((g.put j f).fl j) = f := by simp [Gh.put]
        rw [a2] at h2
        rcases hrow b h2 with h3 | h3
        · exact (h.inj i j hi' hj' hij).2 b h1 h3
        · exact absurd (tag_lt (h.tagR hi' h1)) (by omega)
      · have a2 : ((g.put k f).fl j) = g.fl j := by simp [Gh.put, e2]
        rw [a2] at h2
        exact (h.inj i j hi' hj' hij).2 b h1 h2
  liveN := by rw [e1]; exact h.liveN
  liveL := by rw [e2]; exact h.liveL
  liveS := by rw [e3]; exact h.liveS
theorem Turn.file {w w' : World} {p : Nat} {g : Gh} {k : Nat} (hk : g.live k) {f : FG} (hblk : f.blk = (g.fl k).blk) (hrow : ∀ b, f.row = some b → (g.fl k).row = some b ∨ w.heap.size ≤ b) (hc : Chg (fun i => i = p ∨ i = (g.fl k).blk ∨ (g.fl k).row = some i) w w') : Turn p g (g.put k f) w w' where
  chg := hc.wide fun i _ e => e.elim .inl (fun e => .inr (.inr (.inr (.inr ⟨k, hk, e⟩))))
  foot := by
    rintro i (e | e | e | ⟨j, hj, e⟩)
    · exact .inl (.inl e)
    · exact .inl (.inr (.inl e))
    · exact .inl (.inr (.inr (.inl e)))
    · have hj' : g.live j := hj
      by_cases ek : j = k
      · subst ek
        have : (g.put j f).fl j = f := by simp [Gh.put]
        rw [this] at e
        rcases e with e | e
        · exact .inl (.inr (.inr (.inr ⟨j, hj', .inl (by rw [e, hblk])⟩)))
        · rcases hrow i e with h | h
          · exact .inl (.inr (.inr (.inr ⟨j, hj', .inr h⟩)))
          · exact .inr h
      · have : (g.put k f).fl j = g.fl j := by simp [Gh.put, ek]
        rw [this] at e
        exact .inl (.inr (.inr (.inr ⟨j, hj', e⟩)))
end Go.Proofs.Ytkelahekfkhcfaa
