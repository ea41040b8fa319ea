/- A copy under way: names that are taken over one by one, changes that are done anew. -/
import Derived.Test.YtkelahekfkhcfaaCopyF
namespace Go.Proofs.Ytkelahekfkhcfaa
open Go.RowKit Go.Maps
/-- A file system whose count of bytes is U, whatever it should be. -/
structure FsU (w : World) (p : Nat) (X : PFs) (g : Gh) (U : Int) : Prop where
  fs : FsB w p { cellsOf X g with u := U }
  at_ : FsAt (gw w p X) p X g
theorem gw_size (w : World) (p : Nat) (X : PFs) : (gw w p X).heap.size = w.heap.size := by simp [gw]
theorem gw_other (w : World) {p : Nat} (X : PFs) {k : Nat} (h : k ≠ p) : (gw w p X).heap[k]? = w.heap[k]? := Below.heap_setCell _ _ _ _ h
theorem FsU.inner {w : World} {p : Nat} {X : PFs} {g : Gh} {U : Int} (h : FsU w p X g U) {k : Nat} (hk : Inner g k) : k < w.heap.size ∧ k ≠ p := ⟨by have := h.at_.foot_lt (.inr hk); rwa [gw_size] at this, h.at_.inner_ne hk⟩
theorem FsU.nm {w : World} {p : Nat} {X : PFs} {g : Gh} {U : Int} (h : FsU w p X g U) : NmAt w g.mn g.blk X.names := h.at_.nm.kept fun _ e => (gw_other w X (h.inner (.inl e)).2).symm
theorem FsU.lm {w : World} {p : Nat} {X : PFs} {g : Gh} {U : Int} (h : FsU w p X g U) : NmAt w g.ml g.blk X.lasts := h.at_.lm.kept fun _ e => (gw_other w X (h.inner (.inr (.inl e))).2).symm
theorem FsU.sn {w : World} {p : Nat} {X : PFs} {g : Gh} {U : Int} (h : FsU w p X g U) : w.ownsRow 0 74 3 (.slice g.sa X.since.length g.sc) X.since.length (cellsC g.blk X.since) := row_same h.at_.sn fun b e => (gw_other w X (h.inner (.inr (.inr (.inl (by rw [← g.srow_eq]; exact e))))).2).symm
theorem FsU.adopt {w w' : World} {p : Nat} {X : PFs} {g : Gh} {U : Int} {k : Nat} {f : FG} (h : FsU w p X g U) (hk : ¬ g.live k) (hb : Below w.heap.size w w') (hf : FileAt w' f (X.fileOf k)) (h1 : w.heap.size ≤ f.blk) (h2 : ∀ b, f.row = some b → w.heap.size ≤ b) : FsU w' p X (g.adopt k f) U := by
  have hp : p < w.heap.size := Box.lt h.fs
  refine ⟨Box.kept h.fs (hb.block p hp), ?_⟩
  refine FsAt.adopt h.at_ hk ?_ (hf.kept (gw_other w' X (by omega)) fun b e => gw_other w' X (by have := h2 b e; omega)) (by rw [gw_size]; exact h1) (fun b e => by rw [gw_size]; exact h2 b e)
  rw [gw_size]
  exact ⟨hb.os, hb.tape, hb.output, by rw [gw_size, gw_size]; exact hb.size, fun k hk => heap_setCell_congr k (hb.block k hk)⟩
theorem FsU.below {w w' : World} {p : Nat} {X : PFs} {g : Gh} {U : Int} (h : FsU w p X g U) (hs : ∀ k, (k = p ∨ Inner g k) → w'.heap[k]? = w.heap[k]?) : FsU w' p X g U := by
  refine ⟨Box.kept h.fs (hs p (.inl rfl)), h.at_.frame (fun k hk => heap_setCell_congr k (hs k (.inr hk))) (Box.kept h.at_.fs (heap_setCell_congr p (hs p (.inl rfl)))) rfl rfl rfl rfl⟩
/-- A name and its file are taken over, into the names that last and into those that there are. -/
theorem FsU.both {w w1 w2 : World} {p : Nat} {X X' : PFs} {g : Gh} {U : Int} {D' : List PName} {m1 m2 : Nat} (h : FsU w p X g U) (e3 : X.since = [])
    (hX : X' = { X with names := D', lasts := D' }) (hlive : ∀ x ∈ D', g.live x.file)
    (l1 : g.ml = some m1 ∨ (g.ml = none ∧ w.heap.size ≤ m1)) (n1 : NmAt w1 (some m1) g.blk D') (c1 : Chg (fun i => g.ml = some i ∨ (g.ml = none ∧ i = p)) w w1)
    (l2 : g.mn = some m2 ∨ (g.mn = none ∧ w1.heap.size ≤ m2)) (n2 : NmAt w2 (some m2) g.blk D') (b2 : Box w2 p 64 (((({ cellsOf X g with u := U } : FsC).arr).setIfInBounds 8 (.map (some m1))).setIfInBounds 7 (.map (some m2)))) (c2 : Chg (fun i => g.mn = some i ∨ (g.mn = none ∧ i = p)) w1 w2) :
    FsU w2 p X' { g with mn := some m2, ml := some m1 } U ∧ (∀ k, Inner { g with mn := some m2, ml := some m1 } k → Inner g k ∨ w.heap.size ≤ k) ∧ Chg (fun i => i = p ∨ g.mn = some i ∨ g.ml = some i) w w2 := by
  have hp : p < w.heap.size := Box.lt h.fs
  have hch : Chg (fun i => i = p ∨ g.mn = some i ∨ g.ml = some i) w w2 := Chg.andThen (c1.wide fun i _ e => e.elim (fun e => .inr (.inr e)) (fun e => .inl e.2)) c2 (fun i _ e => e.elim (fun e => .inr (.inl e)) (fun e => .inl e.2))
  have m1lt : m1 < w1.heap.size := tag_lt n1.tag
  have hs1 := c1.size
  have m1p : m1 ≠ p := by
    rcases l1 with e | ⟨_, e⟩
    · exact (h.inner (.inr (.inl e))).2
    · omega
  have m2p : m2 ≠ p := by
    rcases l2 with e | ⟨_, e⟩
    · exact (h.inner (.inl e)).2
    · omega
  have m12 : m2 ≠ m1 := by
    rcases l2 with e | ⟨_, e⟩
    · rcases l1 with e' | ⟨_, e'⟩
      · exact fun e'' => h.at_.apart m2 e (by rw [e'', e'])
      · have := (h.inner (.inl e)).1
        omega
    · omega
  have n1' : NmAt w2 (some m1) g.blk D' := n1.kept fun _ e => by
    cases e
    refine c2.block m1 m1lt ?_
    rintro (e | ⟨_, e⟩)
    · rcases l2 with e' | ⟨e', _⟩
      · rw [e'] at e
        exact m12 (Option.some.inj e)
      · rw [e'] at e
        cases e
    · exact m1p e
  have hfs : FsB w2 p { cellsOf X' { g with mn := some m2, ml := some m1 } with u := U } := by
    refine Box.eq b2 ?_
    subst hX
    simp [cellsOf, FsC.arr, e3]
  refine ⟨⟨hfs, ?_⟩, ?_, hch⟩
  · have hn' : ∀ mo, NmAt w2 mo g.blk D' → (∀ m, mo = some m → m ≠ p) → NmAt (gw w2 p X') mo g.blk D' := fun mo hn hm => hn.kept fun m e => gw_other w2 X' (hm m e)
    subst hX
    refine ⟨?_, hn' _ n2 (fun _ e => by cases e; exact m2p), hn' _ n1' (fun _ e => by cases e; exact m1p), fun m e e' => ?_, ?_, ?_, h.at_.inj, hlive, hlive, fun c hc => ?_⟩
    · refine Box.eq (Box.set hfs 1 _) ?_
      simp [cellsOf, FsC.arr]
    · cases e
      exact m12 (Option.some.inj e').symm
    · show World.ownsRow _ 0 _ 3 (.slice g.sa X.since.length g.sc) X.since.length (cellsC g.blk X.since)
      refine row_same h.sn fun b e => ?_
      have e : g.srow = some b := by rw [← g.srow_eq]; exact e
      have hi := h.inner (.inr (.inr (.inl e)))
      rw [gw_other _ _ hi.2]
      refine hch.block b hi.1 ?_
      rintro (e' | e' | e')
      · exact hi.2 e'
      · exact tag_ne (h.at_.tagN e') (h.at_.tagS e) (by decide) rfl
      · exact tag_ne (h.at_.tagL e') (h.at_.tagS e) (by decide) rfl
    · intro k hk
      have hk' : g.live k := hk
      have hF := h.at_.files k hk'
      have hi1 := h.inner (.inr (.inr (.inr ⟨k, hk', .inl rfl⟩)))
      refine (hF.kept ?_ fun b e => ?_)
      · rw [gw_other _ _ hi1.2, gw_other _ _ hi1.2]
        refine hch.block _ hi1.1 ?_
        rintro (e' | e' | e')
        · exact hi1.2 e'
        · exact tag_ne (h.at_.tagN e') (h.at_.tagF hk') (by decide) rfl
        · exact tag_ne (h.at_.tagL e') (h.at_.tagF hk') (by decide) rfl
      · have hi := h.inner (.inr (.inr (.inr ⟨k, hk', .inr e⟩)))
        rw [gw_other _ _ hi.2, gw_other _ _ hi.2]
        refine hch.block b hi.1 ?_
        rintro (e' | e' | e')
        · exact hi.2 e'
        · exact tag_ne (h.at_.tagN e') (h.at_.tagR hk' e) (by decide) rfl
        · exact tag_ne (h.at_.tagL e') (h.at_.tagR hk' e) (by decide) rfl
    · rw [show _ = X.since from rfl, e3] at hc
      cases hc
  · rintro k (e | e | e | e)
    · obtain rfl := Option.some.inj e
      exact l2.imp .inl (fun h => Nat.le_trans hs1 h.2)
    · obtain rfl := Option.some.inj e
      exact l1.imp (fun e => .inr (.inl e)) (fun h => h.2)
    · exact .inl (.inr (.inr (.inl e)))
    · exact .inl (.inr (.inr (.inr e)))
theorem FsU.rename {w : World} {p : Nat} {X : PFs} {g : Gh} {U : Int} (h : FsU w p X g U) (hN : Nice X.files.length X.names) (h1 : X.names.length ≤ 1000000) (h2 : X.since.length ≤ 1000000) (c : PChange) (hok : OkC X.files.length X.names c) (hlive : c.kind = 1 → g.live c.file) :
    Calls Try.prog 44 #[Go.Proofs.Ytkelahekfkhcfaa.at_ p, .agg (cellsC1 g.blk c).toArray] w fun e w' => e = .returned (.tuple #[]) ∧ ∃ g', FsU w' p (X.change c) g' U ∧ g'.fl = g.fl ∧ g'.live = g.live ∧ (∀ k, Inner g' k → Inner g k ∨ w.heap.size ≤ k) ∧ Chg (fun i => i = p ∨ Inner g i) w w' := by
  refine (rename_any w p { cellsOf X g with u := U } h.fs g.blk X.names X.since c h.nm hN hok h1 rfl h2 h.sn).mono ?_
  rintro e w' ⟨rfl, m, gr, cap, hm, hn, hr, hg, hb, hc⟩
  have hsr : (Value.slice g.sa X.since.length g.sc).ownBlock = g.srow := g.srow_eq _ _
  have hm' : g.mn = some m ∨ (g.mn = none ∧ w.heap.size ≤ m) := hm
  have hg' : g.srow = some gr ∨ w.heap.size ≤ gr := hg.imp (fun h => by rw [← hsr]; exact h) id
  have hcc : Chg (fun i => i = p ∨ g.mn = some i ∨ g.srow = some i) w w' := hc.wide (fun i _ e => e.imp id (fun e => e.imp id (fun e => by rw [← hsr]; exact e)))
  have hp : p < w.heap.size := Box.lt h.fs
  have mp : m ≠ p := by
    rcases hm' with e | ⟨_, e⟩
    · exact (h.inner (.inl e)).2
    · omega
  have gp : gr ≠ p := by
    rcases hg' with e | e
    · exact (h.inner (.inr (.inr (.inl e)))).2
    · omega
  have hfs : FsB w' p { cellsOf (X.change c) { g with mn := some m, sa := some ⟨gr, 0, none⟩, sc := cap } with u := U } := by
    refine Box.eq hb ?_
    have : (X.change c).since.length = X.since.length + 1 := by simp [PFs.change]
    simp only [cellsOf, FsC.arr, this]
    rfl
  refine ⟨rfl, { g with mn := some m, sa := some ⟨gr, 0, none⟩, sc := cap }, ⟨hfs, ?_⟩, rfl, rfl, ?_, hcc.wide fun i _ e => e.imp id (fun e => e.elim .inl (fun e => .inr (.inr (.inl e))))⟩
  · refine FsAt.changed h.at_ hok hlive (hm'.imp id (fun e => ⟨e.1, by rw [gw_size]; exact e.2⟩)) (hn.kept fun _ e => by cases e; exact gw_other _ _ mp) (row_same hr fun b e => by cases e; exact gw_other _ _ gp) rfl rfl rfl rfl ?_ (hcc.ghost (.inl rfl))
    refine Box.eq (Box.set hfs 1 _) ?_
    simp [cellsOf, FsC.arr]
  · have ht : Turn p g { g with mn := some m, sa := some ⟨gr, 0, none⟩, sc := cap } w w' := Turn.changed hm' hg' hcc
    exact ht.foot
/-- When all is taken over it is a file system. -/
theorem FsU.done {w : World} {p : Nat} {X : PFs} {g : Gh} {U : Int} (h : FsU w p X g U) (hU : U = ((X.bulk X.names : Nat) : Int)) : FsAt w p X g := by
  refine h.at_.frame (fun k hk => (gw_other w X (h.inner hk).2).symm) (Box.eq h.fs ?_) rfl rfl rfl rfl
  rw [hU]
  rfl
theorem ranges_same {H : Type} {w w' : World} {P : Program} {k : TypeId} {R : Value → Option (DataW H × List MemPlace)} {b r n : Nat} {D : DataW H} {left : Lit → Bool} {cnt : Nat} (h : w.ranges P k R b r n D left cnt) (h1 : w'.heap[b]? = w.heap[b]?) (h2 : w'.heap[r]? = w.heap[r]?) : w'.ranges P k R b r n D left cnt := by
  obtain ⟨es, clock, since, seen, c0, a1, a2, a3, a4, a5, rest⟩ := h
  exact ⟨es, clock, since, seen, c0, h1.trans a1, a2, a3, a4, h2.trans a5, rest⟩
theorem ranges_tag {H : Type} {w : World} {P : Program} {k : TypeId} {R : Value → Option (DataW H × List MemPlace)} {b r n : Nat} {D : DataW H} {left : Lit → Bool} {cnt : Nat} (h : w.ranges P k R b r n D left cnt) : tag w r = some 2000 := by
  obtain ⟨es, clock, since, seen, c0, a1, a2, a3, a4, a5, rest⟩ := h
  unfold tag
  rw [a5]
  rfl
/-- Two lists of names that read as maps, with the same names: one list. -/
theorem names_one {w w' : World} {m m' : Nat} {blk blk' : Nat → Nat} {l l' : List PName} (h : NmAt w (some m) blk l) (h' : NmAt w' (some m') blk' l') (hm : ∀ x, x ∈ l ↔ x ∈ l') : l = l' := by
  have srt : ∀ {w : World} {m : Nat} {blk : Nat → Nat} {l : List PName}, NmAt w (some m) blk l → l.Pairwise (fun x y => ltB x.name y.name = true) := by
    intro w m blk l h
    obtain ⟨es, he, hp, _⟩ := World.ownsMap.canon h lawS
    have e : l.map (entOf blk) = es := by simpa [mapOf] using he
    rw [← e, List.pairwise_map] at hp
    exact hp.imp fun {x y} hxy => by rw [ltB_before] at hxy; exact hxy
  have irr : ∀ a : List UInt8, ltB a a = false := by
    intro a
    induction a with
    | nil => rfl
    | cons x r ih => simp [ltB, ih]
  have tr : ∀ a b : List UInt8, ltB a b = true → ltB b a = true → False := fun a b h1 h2 => by
    have := List.lt_trans (lt_of_ltB a b h1) (lt_of_ltB b a h2)
    exact List.lt_irrefl a this
  have s1 := srt h
  have s2 := srt h'
  have nd : ∀ {l : List PName}, l.Pairwise (fun x y => ltB x.name y.name = true) → l.Nodup := fun hs => hs.imp fun {x y} hxy e => by rw [e, irr] at hxy; cases hxy
  exact List.Perm.eq_of_pairwise (fun a b _ _ h1 h2 => (tr _ _ h1 h2).elim) s1 s2 ((List.perm_ext_iff_of_nodup (nd s1) (nd s2)).2 hm)
end Go.Proofs.Ytkelahekfkhcfaa
