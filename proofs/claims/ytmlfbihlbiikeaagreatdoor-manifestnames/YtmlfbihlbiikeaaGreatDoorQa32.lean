/- How a file system in memory turns: at a change's beginning, with a change of names, with a file's bytes. -/
import Derived.Test.YtmlfbihlbiikeaaGreatDoorQa28
import Derived.Test.YtmlfbihlbiikeaaGreatDoorQa31
import Derived.Maps.AppendAt
namespace Go.Proofs.YtmlfbihlbiikeaaGreatDoor
open Go.RowKit Go.Maps
theorem ask_same (S : PFs) : S.ask.1.names = S.names ∧ S.ask.1.lasts = S.lasts ∧ S.ask.1.since = S.since ∧ S.ask.1.files = S.files ∧ S.ask.1.quota = S.quota ∧ S.ask.1.asked = S.asked + 1 := by
  unfold PFs.ask
  split
  · exact ⟨rfl, rfl, rfl, rfl, rfl, rfl⟩
  · split
    · split <;> exact ⟨rfl, rfl, rfl, rfl, rfl, rfl⟩
    · exact ⟨rfl, rfl, rfl, rfl, rfl, rfl⟩
theorem bulk_files {S S' : PFs} (h : S'.files = S.files) (l : List PName) : S'.bulk l = S.bulk l := by
  rw [bulk_eq, bulk_eq]
  unfold PFs.fileOf
  rw [h]
theorem ask_cells (S : PFs) (g : Gh) : (cellsOf S g).ask = (cellsOf S.ask.1 g, ((S.ask.2 : Nat) : Int)) := by
  obtain ⟨q, n, l, s⟩ := ask_same S
  have hb := bulk_files s.1 S.ask.1.names
  rw [q] at hb
  unfold cellsOf FsC.ask
  rw [q, l, s.2.1, s.2.2, hb]
  unfold PFs.ask PFs.off
  cases hf : S.fused <;> cases hs : S.fails <;> by_cases h0 : S.fuse = 0 <;> by_cases h1 : S.fail = 0 <;> simp [h0, h1]
theorem Inv.begun {S : PFs} (h : Inv S) (ha : S.asked < 1000000) : Inv S.ask.1 := by
  obtain ⟨q, n, l, s, t, u⟩ := ask_same S
  have hfo : ∀ k, S.ask.1.fileOf k = S.fileOf k := fun k => by unfold PFs.fileOf; rw [s]
  refine ⟨by omega, by rw [t]; exact h.quota, ?_, ?_, by rw [s, n]; exact h.lasts, by rw [s, n, l, q]; exact h.chain, by have := h.count; rw [n, l]; omega, fun k => by rw [hfo]; exact h.lens k, fun k => by rw [hfo]; exact h.last k, by rw [n, l]; exact h.fresh⟩
  · have := h.fuse
    unfold PFs.ask PFs.off
    cases hf : S.fused <;> cases hs : S.fails <;> by_cases h0 : S.fuse = 0 <;> by_cases h1 : S.fail = 0 <;> simp [hf, h0, h1] at this ⊢ <;> omega
  · have := h.fail
    unfold PFs.ask PFs.off
    cases hf : S.fused <;> cases hs : S.fails <;> by_cases h0 : S.fuse = 0 <;> by_cases h1 : S.fail = 0 <;> simp [hs, h0, h1] at this ⊢ <;> omega
theorem begin_at {w : World} {p : Nat} {S : PFs} {g : Gh} (h : FsAt w p S g) (hI : Inv S) (ha : S.asked < 1000000) : Calls Tryz.prog 38 #[at_ p] w fun e w' => e = .returned (.int .i64 (S.ask.2 : Nat)) ∧ FsAt w' p S.ask.1 g ∧ Inv S.ask.1 ∧ Chg (fun k => k = p) w w' := by
  obtain ⟨q, n, l, s, _⟩ := ask_same S
  refine (begin_any w p (cellsOf S g) h.fs ?_ ?_ ?_).mono ?_
  · have := hI.asked
    simp [cellsOf]
    omega
  · have := hI.fuse
    unfold cellsOf
    cases hf : S.fused
    · simp
    · simpa using this hf
  · have := hI.fail
    unfold cellsOf
    cases hf : S.fails
    · simp
    · simpa using this hf
  · rw [ask_cells]
    rintro e w' ⟨rfl, hb, hg⟩
    exact ⟨rfl, h.frame (fun k hk => hg.block k (h.foot_lt (.inr hk)) (fun e => h.inner_ne hk (Option.some.inj e))) hb q n l s, hI.begun ha, (Chg.grown hg).wide fun k _ e => (Option.some.inj e).symm⟩
theorem FsAt.changed {w w' : World} {p : Nat} {S : PFs} {g : Gh} (h : FsAt w p S g) {c : PChange} (hok : OkC S.files.length S.names c) (hlive : c.kind = 1 → g.live c.file) {m gr cap : Nat} (hm : g.mn = some m ∨ (g.mn = none ∧ w.heap.size ≤ m)) (hn : NmAt w' (some m) g.blk (changedN S.names c))
    (hr : w'.ownsRow 0 101 3 (.slice (some ⟨gr, 0, none⟩) (S.since.length + 1) cap) (S.since.length + 1) (cellsC g.blk (S.since ++ [c]))) {S' : PFs} (e1 : S'.names = changedN S.names c) (e2 : S'.lasts = S.lasts) (e3 : S'.since = S.since ++ [c]) (e4 : S'.files = S.files)
    (hfs : FsB w' p (cellsOf S' { g with mn := some m, sa := some ⟨gr, 0, none⟩, sc := cap })) (hc : Chg (fun i => i = p ∨ g.mn = some i ∨ g.srow = some i) w w') : FsAt w' p S' { g with mn := some m, sa := some ⟨gr, 0, none⟩, sc := cap } where
  fs := hfs
  nm := by rw [e1]; exact hn
  lm := by
    rw [e2]
    refine NmAt.kept h.lm fun b e => hc.block b (tag_lt (h.tagL e)) ?_
    rintro (rfl | e' | e')
    · exact h.inner_ne (.inr (.inl e)) rfl
    · exact h.apart b e' e
    · exact tag_ne (h.tagL e) (h.tagS e') (by decide) rfl
  apart := fun b e1 e2 => by
    obtain rfl := Option.some.inj e1
    rcases hm with e | ⟨_, e⟩
    · exact h.apart _ e e2
    · exact absurd (tag_lt (h.tagL e2)) (by omega)
  sn := by
    rw [e3, List.length_append]
    exact hr
  files := fun k hk => by
    have : S'.fileOf k = S.fileOf k := by unfold PFs.fileOf; rw [e4]
    rw [this]
    refine (h.files k hk).kept (hc.block _ (tag_lt (h.tagF hk)) ?_) fun b e => hc.block b (tag_lt (h.tagR hk e)) ?_
    · rintro (e | e | e)
      · exact h.inner_ne (.inr (.inr (.inr ⟨k, hk, .inl rfl⟩))) e
      · exact tag_ne (h.tagN e) (h.tagF hk) (by decide) rfl
      · exact tag_ne (h.tagS e) (h.tagF hk) (by decide) rfl
    · rintro (e' | e' | e')
      · exact h.inner_ne (.inr (.inr (.inr ⟨k, hk, .inr e⟩))) e'
      · exact tag_ne (h.tagN e') (h.tagR hk e) (by decide) rfl
      · exact tag_ne (h.tagS e') (h.tagR hk e) (by decide) rfl
  inj := h.inj
  liveN := by
    rw [e1]
    exact Chain.live (K := S.files.length) (s := [c]) ⟨hok, rfl⟩ h.liveN (fun d hd => by rw [List.mem_singleton.1 hd]; exact hlive)
  liveL := by rw [e2]; exact h.liveL
  liveS := by
    rw [e3]
    intro d hd
    rcases List.mem_append.1 hd with hd | hd
    · exact h.liveS d hd
    · rw [List.mem_singleton.1 hd]
      exact hlive
structure Turn (p : Nat) (g g' : Gh) (w w' : World) : Prop where
  chg : Chg (Foot p g) w w'
  foot : ∀ k, Inner g' k → Inner g k ∨ w.heap.size ≤ k
theorem Turn.same {p : Nat} {g : Gh} {w w' : World} (h : Chg (Foot p g) w w') : Turn p g g w w' := ⟨h, fun _ hk => .inl hk⟩
theorem Turn.changed {w w' : World} {p : Nat} {g : Gh} {m gr cap : Nat} (hm : g.mn = some m ∨ (g.mn = none ∧ w.heap.size ≤ m)) (hg : g.srow = some gr ∨ w.heap.size ≤ gr) (hc : Chg (fun i => i = p ∨ g.mn = some i ∨ g.srow = some i) w w') : Turn p g { g with mn := some m, sa := some ⟨gr, 0, none⟩, sc := cap } w w' where
  chg := hc.wide fun k _ e => e.elim .inl (fun e => .inr (e.elim .inl (fun e => .inr (.inr (.inl e)))))
  foot := by
    rintro k (e | e | e | e)
    · obtain rfl := Option.some.inj e
      exact hm.imp .inl (fun h => h.2)
    · exact .inl (.inr (.inl e))
    · obtain rfl := Option.some.inj (show some gr = some k from e)
      exact hg.imp (fun h => .inr (.inr (.inl h))) id
    · exact .inl (.inr (.inr (.inr e)))
def Gh.put (g : Gh) (k : Nat) (f : FG) : Gh := { g with fl := fun j => if j = k then f else g.fl j }
theorem Gh.put_blk (g : Gh) {k : Nat} {f : FG} (h : f.blk = (g.fl k).blk) : (g.put k f).blk = g.blk := by
  funext j
  unfold Gh.blk Gh.put
  by_cases e : j = k
  · subst e
    simp [h]
  · simp [e]
theorem FsAt.file {w w' : World} {p : Nat} {S S' : PFs} {g : Gh} (h : FsAt w p S g) {k : Nat} (hk : g.live k) {f : FG} (hblk : f.blk = (g.fl k).blk) (hrow : ∀ b, f.row = some b → (g.fl k).row = some b ∨ w.heap.size ≤ b) (hf : FileAt w' f (S'.fileOf k)) (ho : ∀ j, j ≠ k → S'.fileOf j = S.fileOf j)
    (e1 : S'.names = S.names) (e2 : S'.lasts = S.lasts) (e3 : S'.since = S.since) (hfs : FsB w' p (cellsOf S' g)) (hc : Chg (fun i => i = p ∨ i = (g.fl k).blk ∨ (g.fl k).row = some i) w w') : FsAt w' p S' (g.put k f) where
  fs := hfs
  nm := by
    rw [e1, g.put_blk hblk]
    refine NmAt.kept h.nm fun b e => hc.block b (tag_lt (h.tagN e)) ?_
    rintro (e' | e' | e')
    · exact h.inner_ne (.inl e) e'
    · exact tag_ne (h.tagN e) (h.tagF hk) (by decide) e'
    · exact tag_ne (h.tagN e) (h.tagR hk e') (by decide) rfl
  lm := by
    rw [e2, g.put_blk hblk]
    refine NmAt.kept h.lm fun b e => hc.block b (tag_lt (h.tagL e)) ?_
    rintro (e' | e' | e')
    · exact h.inner_ne (.inr (.inl e)) e'
    · exact tag_ne (h.tagL e) (h.tagF hk) (by decide) e'
    · exact tag_ne (h.tagL e) (h.tagR hk e') (by decide) rfl
  apart := h.apart
  sn := by
    rw [e3, g.put_blk hblk]
    refine row_same h.sn fun b e => ?_
    have e : g.srow = some b := by rw [← g.srow_eq]; exact e
    refine hc.block b (tag_lt (h.tagS e)) ?_
    rintro (e' | e' | e')
    · exact h.inner_ne (.inr (.inr (.inl e))) e'
    · exact tag_ne (h.tagS e) (h.tagF hk) (by decide) e'
    · exact tag_ne (h.tagS e) (h.tagR hk e') (by decide) rfl
  files := fun j hj => by
    by_cases e : j = k
    · subst e
      have : (g.put j f).fl j = f := by simp [Gh.put]
      rw [this]
      exact hf
    · have : (g.put k f).fl j = g.fl j := by simp [Gh.put, e]
      rw [this, ho j e]
      have hj' : g.live j := hj
      refine (h.files j hj').kept (hc.block _ (tag_lt (h.tagF hj')) ?_) fun b eb => hc.block b (tag_lt (h.tagR hj' eb)) ?_
      · rintro (e' | e' | e')
        · exact h.inner_ne (.inr (.inr (.inr ⟨j, hj', .inl rfl⟩))) e'
        · exact (h.inj j k hj' hk e).1 e'
        · exact tag_ne (h.tagF hj') (h.tagR hk e') (by decide) rfl
      · rintro (e' | e' | e')
        · exact h.inner_ne (.inr (.inr (.inr ⟨j, hj', .inr eb⟩))) e'
        · exact tag_ne (h.tagR hj' eb) (h.tagF hk) (by decide) e'
        · exact (h.inj j k hj' hk e).2 b eb e'
  inj := fun i j hi hj hij => by
    have hi' : g.live i := hi
    have hj' : g.live j := hj
    have ei : ((g.put k f).fl i).blk = (g.fl i).blk := congrFun (g.put_blk hblk) i
    have ej : ((g.put k f).fl j).blk = (g.fl j).blk := congrFun (g.put_blk hblk) j
    rw [ei, ej]
    refine ⟨(h.inj i j hi' hj' hij).1, fun b h1 h2 => ?_⟩
    by_cases e : i = k
    · subst e
      have a1 : ((g.put i f).fl i) = f := by simp [Gh.put]
      have a2 : ((g.put i f).fl j) = g.fl j := by simp [Gh.put, Ne.symm hij]
      rw [a1] at h1
      rw [a2] at h2
      rcases hrow b h1 with h3 | h3
      · exact (h.inj i j hi' hj' hij).2 b h3 h2
      · exact absurd (tag_lt (h.tagR hj' h2)) (by omega)
    · have a1 : ((g.put k f).fl i) = g.fl i := by simp [Gh.put, e]
      rw [a1] at h1
      by_cases e2 : j = k
      · subst e2
        have a2 : ((g.put j f).fl j) = f := by simp [Gh.put]
        rw [a2] at h2
        rcases hrow b h2 with h3 | h3
        · exact (h.inj i j hi' hj' hij).2 b h1 h3
        · exact absurd (tag_lt (h.tagR hi' h1)) (by omega)
      · have a2 : ((g.put k f).fl j) = g.fl j := by simp [Gh.put, e2]
        rw [a2] at h2
        exact (h.inj i j hi' hj' hij).2 b h1 h2
  liveN := by rw [e1]; exact h.liveN
  liveL := by rw [e2]; exact h.liveL
  liveS := by rw [e3]; exact h.liveS
theorem Turn.file {w w' : World} {p : Nat} {g : Gh} {k : Nat} (hk : g.live k) {f : FG} (hblk : f.blk = (g.fl k).blk) (hrow : ∀ b, f.row = some b → (g.fl k).row = some b ∨ w.heap.size ≤ b) (hc : Chg (fun i => i = p ∨ i = (g.fl k).blk ∨ (g.fl k).row = some i) w w') : Turn p g (g.put k f) w w' where
  chg := hc.wide fun i _ e => e.elim .inl (fun e => .inr (.inr (.inr (.inr ⟨k, hk, e⟩))))
  foot := by
    rintro i (e | e | e | ⟨j, hj, e⟩)
    · exact .inl (.inl e)
    · exact .inl (.inr (.inl e))
    · exact .inl (.inr (.inr (.inl e)))
    · have hj' : g.live j := hj
      by_cases ek : j = k
      · subst ek
        have : (g.put j f).fl j = f := by simp [Gh.put]
        rw [this] at e
        rcases e with e | e
        · exact .inl (.inr (.inr (.inr ⟨j, hj', .inl (by rw [e, hblk])⟩)))
        · rcases hrow i e with h | h
          · exact .inl (.inr (.inr (.inr ⟨j, hj', .inr h⟩)))
          · exact .inr h
      · have : (g.put k f).fl j = g.fl j := by simp [Gh.put, ek]
        rw [this] at e
        exact .inl (.inr (.inr (.inr ⟨j, hj', e⟩)))
end Go.Proofs.YtmlfbihlbiikeaaGreatDoor
namespace Go.Proofs.YtmlfbihlbiikeaaGreatDoor
open Go.RowKit Go.Maps
set_option maxRecDepth 100000 in
set_option maxHeartbeats 1000000 in
theorem beginOf_at {w : World} {p : Nat} {S : PFs} {g : Gh} (h : FsAt w p S g) (hI : Inv S) (ha : S.asked < 1000000) (name : ByteArray) : Calls Tryz.prog 45 #[at_ p, .string name] w fun e w' => FsAt w' p S.ask.1 g ∧ Inv S.ask.1 ∧ Chg (fun k => k = p) w w' ∧
    ((∃ er : Int, er ≠ 0 ∧ Hid (er = ((S.ask.2 : Nat) : Int)) ∧ e = .returned (.tuple #[.pointer none, .int .i64 er])) ∨ (S.ask.2 = 0 ∧ findN S.names name.data.toList = none ∧ e = .returned (.tuple #[.pointer none, .int .i64 42])) ∨ (∃ k, S.ask.2 = 0 ∧ findN S.names name.data.toList = some k ∧ e = .returned (.tuple #[at_ (g.blk k), .int .i64 0]))) := by
  obtain ⟨q, _⟩ := ask_same S
  go_enter Tryz.func45, Tryz.ntmps45
  go_wp2_with fail
  refine (begin_at h hI ha).mono ?_
  rintro e w2 ⟨rfl, h2, hI2, hc2⟩
  obtain ⟨q0, q1, q2, q3, q4, q5, q6, q7, q8, q9⟩ := h2.fs.cells
  have hlk := h2.nm.look hI2.short name
  rw [q] at hlk
  simp only [cellsOf] at q7
  by_cases h0 : S.ask.2 = 0
  · have H0 : Hid (S.ask.2 = 0) := h0
    obtain ⟨er, her⟩ : ∃ er : Nat, S.ask.2 = er := ⟨_, rfl⟩
    rw [h0]
    cases hf : findN S.names name.data.toList with
    | none =>
      rw [hf, ptrOf] at hlk
      go_wp2
      go_returns
      exact ⟨h2, hI2, hc2, .inr (.inl ⟨h0, hf, rfl⟩)⟩
    | some k =>
      rw [hf, ptrOf] at hlk
      go_wp2
      go_returns
      exact ⟨h2, hI2, hc2, .inr (.inr ⟨k, h0, hf, rfl⟩)⟩
  · obtain ⟨er, her⟩ : ∃ er : Int, er = ((S.ask.2 : Nat) : Int) := ⟨_, rfl⟩
    have hne : er ≠ 0 := by omega
    have HE : Hid (er = ((S.ask.2 : Nat) : Int)) := her
    rw [← her]
    clear her
    go_wp2
    go_returns
    exact ⟨h2, hI2, hc2, .inl ⟨er, hne, HE, rfl⟩⟩
set_option maxRecDepth 100000 in
theorem mayName_any (w : World) (s : ByteArray) : Calls Tryz.prog 39 #[.string s] w fun e w' => e = .returned (.bool (goodN s.data.toList)) ∧ w' = w := by
  have e : s.data.toList.length = s.size := rfl
  unfold goodN
  rw [e]
  go_enter Tryz.func39, Tryz.ntmps39
  go_wp2
  · have h1 : (1 : Int) ≤ (s.size : Int) := by assumption
    go_returns
    refine ⟨ret1 (congrArg Value.bool ?_), rfl⟩
    have : decide (0 < s.size) = true := decide_eq_true (by omega)
    rw [this, Bool.true_and]
    show decide ((s.size : Int) ≤ 32) = _
    rw [decide_eq_decide]
    omega
  · have h1 : (s.size : Int) < 1 := by assumption
    go_returns
    refine ⟨ret1 (congrArg Value.bool ?_), rfl⟩
    have : decide (0 < s.size) = false := decide_eq_false (by omega)
    rw [this, Bool.false_and]
end Go.Proofs.YtmlfbihlbiikeaaGreatDoor
namespace Go.Proofs.YtmlfbihlbiikeaaGreatDoor
open Go.RowKit Go.Maps
theorem fileOf_set (S : PFs) (k j : Nat) (x : PFile) (hk : k < S.files.length) : ({ S with files := S.files.set k x } : PFs).fileOf j = if j = k then x else S.fileOf j := by
  unfold PFs.fileOf
  show (S.files.set k x).getD j file0 = _
  rw [List.getD_eq_getElem?_getD, List.getElem?_set]
  by_cases e : j = k
  · subst e
    simp [hk]
  · rw [if_neg (Ne.symm e), if_neg e, List.getD_eq_getElem?_getD]
theorem Inv.file {S S' : PFs} (h : Inv S) {k : Nat} {x : PFile} (hk : k < S.files.length) (e1 : S'.names = S.names) (e2 : S'.lasts = S.lasts) (e3 : S'.since = S.since) (e4 : S'.files = S.files.set k x) (e5 : S'.quota = S.quota) (e6 : S'.asked = S.asked) (e7 : S'.fused = S.fused ∧ S'.fuse = S.fuse ∧ S'.fails = S.fails ∧ S'.fail = S.fail) (hx : x.b.length ≤ 1048576) (hl : x.last ≤ x.b.length) : Inv S' := by
  have hfo : ∀ j, S'.fileOf j = if j = k then x else S.fileOf j := fun j => by
    rw [← fileOf_set S k j x hk]
    unfold PFs.fileOf
    rw [e4]
  have hlen : S'.files.length = S.files.length := by rw [e4, List.length_set]
  obtain ⟨f1, f2, f3, f4⟩ := e7
  refine ⟨by rw [e6]; exact h.asked, by rw [e5]; exact h.quota, by rw [f1, f2]; exact h.fuse, by rw [f3, f4]; exact h.fail, by rw [hlen, e2]; exact h.lasts, by rw [hlen, e1, e2, e3]; exact h.chain, by rw [e2, e3, e6]; exact h.count, fun j => ?_, fun j => ?_, by rw [e2, e3]; exact h.fresh⟩
  · rw [hfo]
    split
    · exact hx
    · exact h.lens j
  · rw [hfo]
    split
    · exact hl
    · exact h.last j
set_option maxRecDepth 100000 in
set_option maxHeartbeats 1000000 in
theorem sync_at {w : World} {p : Nat} {S : PFs} {g : Gh} (h : FsAt w p S g) (hI : Inv S) (ha : S.asked < 1000000) (name : ByteArray) : Calls Tryz.prog 74 #[at_ p, .string name] w fun e w' => e = .returned (.int .i64 ((S.sync name.data.toList).2 : Nat)) ∧ Inv (S.sync name.data.toList).1 ∧ ∃ g', FsAt w' p (S.sync name.data.toList).1 g' ∧ Turn p g g' w w' := by
  obtain ⟨q, ql, qs, qf, qq, qa⟩ := ask_same S
  go_enter Tryz.func74, Tryz.ntmps74
  go_wp2_with fail
  refine (beginOf_at h hI ha name).mono ?_
  rintro e w2 ⟨h2, hI2, hc2, (⟨er, hne, HE, rfl⟩ | ⟨h0, hf, rfl⟩ | ⟨k, h0, hf, rfl⟩)⟩
  · have hS : S.sync name.data.toList = S.ask := by
      rw [PFs.sync, if_pos (by have := HE.out; omega)]
    go_wp2
    go_returns
    rw [hS]
    exact ⟨ret1 (congrArg (Value.int .i64) HE.out), hI2, g, h2, Turn.same (hc2.wide fun _ _ e => .inl e)⟩
  · have hS : S.sync name.data.toList = (S.ask.1, 42) := by
      rw [PFs.sync, if_neg (by omega), hf]
    go_wp2
    go_returns
    rw [hS]
    exact ⟨rfl, hI2, g, h2, Turn.same (hc2.wide fun _ _ e => .inl e)⟩
  · have hS : S.sync name.data.toList = ({ S.ask.1 with files := S.files.set k ⟨(S.fileOf k).b, (S.fileOf k).b.length⟩ }, 0) := by
      rw [PFs.sync, if_neg (by omega), hf]
    obtain ⟨x, hx, _, hxk⟩ := find_mem hf
    have hk : g.live k := by rw [← hxk]; exact h.liveN x hx
    have hkl : k < S.files.length := by rw [← hxk]; exact (hI.nice.good x hx).2
    have hF := h2.files k hk
    have hfo : S.ask.1.fileOf k = S.fileOf k := by unfold PFs.fileOf; rw [qf]
    rw [hfo] at hF
    have c0 := hF.box.cell 0
    have c1 := hF.box.cell 1
    have s1 := hF.box.soft 1
    simp at c0 c1
    have hbl : (S.fileOf k).b.length ≤ 1048576 := hI.lens k
    rw [show g.blk k = (g.fl k).blk from rfl]
    have hpk : (g.fl k).blk ≠ p := h.inner_ne (.inr (.inr (.inr ⟨k, hk, .inl rfl⟩)))
    have hrk : ∀ b, (g.fl k).row = some b → b ≠ (g.fl k).blk := fun b e => tag_ne (h.tagR hk e) (h.tagF hk) (by decide)
    go_wp2
    go_returns
    rw [hS]
    have hfo' := fun j => fileOf_set S.ask.1 k j ⟨(S.fileOf k).b, (S.fileOf k).b.length⟩ (by rw [qf]; exact hkl)
    rw [qf] at hfo'
    refine ⟨rfl, hI2.file (k := k) (x := ⟨(S.fileOf k).b, (S.fileOf k).b.length⟩) (by rw [qf]; exact hkl) rfl rfl rfl (by rw [qf]) rfl rfl ⟨rfl, rfl, rfl, rfl⟩ hbl (Nat.le_refl _), g.put k (g.fl k), ?_, ?_⟩
    · refine FsAt.file h2 hk rfl (fun b e => .inl e) ?_ (fun j hj => by rw [hfo', if_neg hj]) rfl rfl rfl ?_ ((Chg.refl _ _).set (fun _ => .inr (.inl rfl)) _ _)
      · rw [hfo', if_pos rfl]
        exact ⟨hF.box.set 1 _, hF.own.size, row_same hF.own.row (fun b e => Below.heap_setCell _ _ _ _ (hrk b (by rw [← FG.row_eq]; exact e)))⟩
      · have e : cellsOf ({ S.ask.1 with files := S.files.set k ⟨(S.fileOf k).b, (S.fileOf k).b.length⟩ } : PFs) g = cellsOf S.ask.1 g := by
          unfold cellsOf
          have : ({ S.ask.1 with files := S.files.set k ⟨(S.fileOf k).b, (S.fileOf k).b.length⟩ } : PFs).bulk S.ask.1.names = S.ask.1.bulk S.ask.1.names := by
            rw [bulk_eq, bulk_eq]
            refine bulkF_congr fun x _ => ?_
            simp only [hfo']
            split
            · rename_i e
              rw [e, hfo]
            · rfl
          rw [this]
        rw [e]
        exact Box.kept h2.fs (Below.heap_setCell _ _ _ _ hpk.symm)
    · exact Turn.file hk rfl (fun b e => .inl e) ((hc2.wide fun _ _ e => .inl e).set (fun _ => .inr (.inl rfl)) _ _)
end Go.Proofs.YtmlfbihlbiikeaaGreatDoor
namespace Go.Proofs.YtmlfbihlbiikeaaGreatDoor
open Go.RowKit Go.Maps
theorem wpList_appL (w : World) {ops : Array Oper} {rest : List Oper} {o : Oper} {a : Act} {Q : Exit → Act → World → Prop} (hgd : o.guard = none) (s x : Operand)
    (ho : o.op = .call { callee := .builtin .append, args := #[s, x], argTypes := #[29, 29] })
    (a1 : Option Addr) (n1 c1 : Nat) (bs : List UInt8) (hs : a.eval s = .slice a1 n1 c1) (hown : OwnB w 0 a1 n1 c1 bs)
    (a2 : Option Addr) (n2 c2 : Nat) (cs : List UInt8) (hx : a.eval x = .slice a2 n2 c2) (hsrc : BsAt w a2 n2 c2 cs)
    (hl : n1 + n2 ≤ 140737488355328)
    (h : ∀ a' c' w', OwnB w' 0 a' (n1 + n2) c' (bs ++ cs) → w.grownBy w' (Value.slice a1 n1 c1).ownBlock → ((Value.slice a' (n1 + n2) c').ownBlock = (Value.slice a1 n1 c1).ownBlock ∨ (Value.slice a' (n1 + n2) c').ownBlock = some w.heap.size) → wpList Tryz.prog ops Q rest (a.put o.dst (.slice a' (n1 + n2) c')) w') :
    wpList Tryz.prog ops Q (o :: rest) a w := by
  obtain ⟨i, hi, hz0, hz1, hz2⟩ := info_parts infoU8
  have hsz := hsrc.size
  cases a2 with
  | none =>
    have hc0 := hsrc.bare rfl
    have hle := hsrc.le
    obtain rfl : n2 = 0 := by omega
    subst hc0
    obtain rfl := List.eq_nil_of_length_eq_zero hsz
    refine wpList_append_own_none hgd s x _ ho 0 5 i 1 Tryz.underlying29 hi _ n1 _ hs hown.row hx ?_
    exact h a1 c1 w (by simpa using hown) (World.grownBy.refl _ _) (.inl rfl)
  | some ad =>
    have hcell : ∀ j u, (cellsB cs)[j]? = some u → w.cell? (ad.add j) = some u := by
      intro j u hu
      have hj : j < cs.length := by have := (List.getElem?_eq_some_iff.1 hu).1; rwa [cellsB_length] at this
      obtain ⟨b, off, he, hc⟩ := hsrc.here (by omega)
      obtain rfl := Option.some.inj he
      rw [cellsB_get cs j hj] at hu
      obtain rfl := Option.some.inj hu
      rw [Addr.add_lit]
      exact hc j (by omega)
    refine wpList_append_own_at w hgd s x _ ho 0 5 i (.int .u8 0) 1 1 Tryz.underlying29 hi hz0 hz1 hz2 rfl (by decide) _ n1 _ hs hown.row ad n2 c2 (cellsB cs) hx (by rw [cellsB_length]; omega) hcell (cellsB_one cs) (by unfold maxLen; omega) (by omega) (Nat.zero_le _) ?_
    intro v' w' hr hg _ hl'
    rw [← cellsB_append] at hr
    obtain ⟨a', c', rfl, ho'⟩ := own_of_row hr
    exact h a' c' w' ho' hg hl'
theorem FsB.noByte {w : World} {p : Nat} {c : FsC} (h : FsB w p c) (i : Nat) (x : Int) : w.cell? ⟨p, i, none⟩ ≠ some (.int .u8 x) := by
  rw [Box.cell h i]
  intro e
  have hi : i < 10 := (Array.getElem?_eq_some_iff.1 e).1
  unfold FsC.arr at e
  rcases (by omega : i = 0 ∨ i = 1 ∨ i = 2 ∨ i = 3 ∨ i = 4 ∨ i = 5 ∨ i = 6 ∨ i = 7 ∨ i = 8 ∨ i = 9) with rfl | rfl | rfl | rfl | rfl | rfl | rfl | rfl | rfl | rfl <;> simp at e
theorem BsAt.chg {w w' : World} {p : Nat} {c : FsC} {a : Option Addr} {len cap : Nat} {bs : List UInt8} (h : BsAt w a len cap bs) (hB : FsB w p c) (hc : Chg (fun k => k = p) w w') : BsAt w' a len cap bs :=
  ⟨h.size, h.le, h.max, h.bare, fun hp => by
    obtain ⟨b, off, ha, hcell⟩ := h.here hp
    refine ⟨b, off, ha, fun j hj => ?_⟩
    have := hcell j hj
    have hb : b ≠ p := by
      rintro rfl
      exact hB.noByte _ _ this
    rw [World.cell?_of_block (hc.block b (World.block_lt_of_cell? w _ this) hb)]
    exact this⟩
theorem bulk_put {S S' : PFs} {K k : Nat} {l : List PName} {name : List UInt8} {x : PFile} (hN : Nice K l) (hf : findN l name = some k) (hfo : ∀ j, S'.fileOf j = if j = k then x else S.fileOf j) : S'.bulk l + (S.fileOf k).b.length = S.bulk l + x.b.length := by
  have h1 := bulk_set (len := fun j => (S.fileOf j).b.length) (len' := fun j => (S'.fileOf j).b.length) hN hf (fun j hj => by simp only [hfo, if_neg hj])
  rw [← bulk_eq, ← bulk_eq] at h1
  simpa only [hfo, if_true] using h1
theorem FsAt.drew {w : World} {p : Nat} {S : PFs} {g : Gh} (h : FsAt w p S g) : FsAt w.drew p S g := h.frame (fun _ _ => rfl) h.fs rfl rfl rfl rfl
set_option maxRecDepth 100000 in
set_option maxHeartbeats 1000000 in
theorem append_at {w : World} {p : Nat} {S : PFs} {g : Gh} (h : FsAt w p S g) (hI : Inv S) (ha : S.asked < 1000000) (name : ByteArray) (a : Option Addr) (len cap : Nat) (bs : List UInt8) (hbs : BsAt w a len cap bs) (hlen : len ≤ 140737488355328) : Calls Tryz.prog 18 #[at_ p, .string name, .slice a len cap] w fun e w' => e = .returned (.int .i64 ((S.append name.data.toList bs).2 : Nat)) ∧ Inv (S.append name.data.toList bs).1 ∧ ∃ g', FsAt w' p (S.append name.data.toList bs).1 g' ∧ Turn p g g' w w' := by
  obtain ⟨q, ql, qs, qf, qq, qa⟩ := ask_same S
  go_enter Tryz.func18, Tryz.ntmps18
  go_wp2_with fail
  refine (beginOf_at h hI ha name).mono ?_
  rintro e w2 ⟨h2, hI2, hc2, (⟨er, hne, HE, rfl⟩ | ⟨h0, hf, rfl⟩ | ⟨k, h0, hf, rfl⟩)⟩
  · have hS : S.append name.data.toList bs = S.ask := by
      rw [PFs.append, if_pos (by have := HE.out; omega)]
    go_wp2
    go_returns
    rw [hS]
    exact ⟨ret1 (congrArg (Value.int .i64) HE.out), hI2, g, h2, Turn.same (hc2.wide fun _ _ e => .inl e)⟩
  · have hS : S.append name.data.toList bs = (S.ask.1, 42) := by
      rw [PFs.append, if_neg (by omega), hf]
    go_wp2
    go_returns
    rw [hS]
    exact ⟨rfl, hI2, g, h2, Turn.same (hc2.wide fun _ _ e => .inl e)⟩
  · obtain ⟨x, hx, _, hxk⟩ := find_mem hf
    have hk : g.live k := by rw [← hxk]; exact h.liveN x hx
    have hkl : k < S.files.length := by rw [← hxk]; exact (hI.nice.good x hx).2
    have hF := h2.files k hk
    have hfo : S.ask.1.fileOf k = S.fileOf k := by unfold PFs.fileOf; rw [qf]
    rw [hfo] at hF
    have hbk : S.ask.1.bulk S.ask.1.names = S.bulk S.names := by rw [q]; exact bulk_files qf _
    have c0 := hF.box.cell 0
    have s0 := hF.box.soft 0
    simp at c0
    have hbl : (S.fileOf k).b.length ≤ 1048576 := hI.lens k
    rw [show g.blk k = (g.fl k).blk from rfl]
    have hpk : (g.fl k).blk ≠ p := h.inner_ne (.inr (.inr (.inr ⟨k, hk, .inl rfl⟩)))
    have hrk : ∀ b, (g.fl k).row = some b → b ≠ (g.fl k).blk := fun b e => tag_ne (h.tagR hk e) (h.tagF hk) (by decide)
    have hrp : ∀ b, (g.fl k).row = some b → b ≠ p := fun b e => tag_ne (h.tagR hk e) h.tagP (by decide)
    obtain ⟨q0, q1, _⟩ := h2.fs.cells
    have s1 := Box.soft h2.fs 1
    simp only [cellsOf] at q0 q1
    rw [hbk] at q1
    rw [qq] at q0
    have hU := hI.bulk
    have hQ := hI.quota
    have hbs2 : BsAt w2 a len cap bs := hbs.chg h.fs hc2
    have hsz := hbs.size
    have HSz : Hid (bs.length = len) := hsz
    clear hsz
    obtain ⟨U, HU⟩ : ∃ U, Hid (U = S.bulk S.names) := ⟨_, rfl⟩
    rw [← HU.out] at q1 hU
    obtain ⟨B, HB⟩ : ∃ B, Hid (B = (S.fileOf k).b) := ⟨_, rfl⟩
    by_cases hfull : S.quota < len + U
    · have hS : S.append name.data.toList bs = (S.ask.1, 43) := by
        rw [PFs.append, if_neg (by omega), hf]
        show (if S.quota < bs.length + S.bulk S.names then _ else _) = _
        rw [if_pos (by rw [HSz.out, ← HU.out]; exact hfull)]
      go_wp2
      go_region
      go_wp2
      go_returns
      rw [hS]
      exact ⟨rfl, hI2, g, h2.drew, Turn.same (hc2.wide fun _ _ e => .inl e).drew⟩
    · have hS : S.append name.data.toList bs = ({ S.ask.1 with files := S.files.set k ⟨(S.fileOf k).b ++ bs, (S.fileOf k).last⟩ }, 0) := by
        rw [PFs.append, if_neg (by omega), hf]
        show (if S.quota < bs.length + S.bulk S.names then _ else _) = _
        rw [if_neg (by rw [HSz.out, ← HU.out]; exact hfull)]
      have hown : OwnB w2.drew 0 (g.fl k).a (S.fileOf k).b.length (g.fl k).cap (S.fileOf k).b := ⟨hF.own.size, row_same hF.own.row (fun _ _ => rfl)⟩
      have hsrc : BsAt w2.drew a len cap bs := hbs2.drew
      have hblt := tag_lt h2.tagP
      have hklt := tag_lt (h2.tagF hk)
      go_wp2
      go_region
      go_wp2_with (first
        | (at_builtin; refine wpList_appL _ rfl _ _ rfl _ _ _ _ rfl hown _ _ _ _ rfl hsrc (by omega) ?_; intro a3 c3 w3 ho3 hg3 hl3
           have e0 : Box w3 (g.fl k).blk 99 #[.slice (g.fl k).a (S.fileOf k).b.length (g.fl k).cap, .int .i64 (((S.fileOf k).last : Nat) : Int)] := hF.box.kept (hg3.block _ hklt (fun e => hrk _ (by rw [← FG.row_eq]; exact e.symm) rfl))
           have k0 := e0.cell 0
           have k1 := e0.soft 0
           have e1 : FsB w3 p (cellsOf S.ask.1 g) := Box.kept h2.fs (hg3.block _ hblt (fun e => hrp _ (by rw [← FG.row_eq]; exact e.symm) rfl))
           obtain ⟨r0, r1, _⟩ := e1.cells
           have r2 := Box.soft e1 1
           simp at k0
           simp only [cellsOf] at r0 r1
           rw [hbk, ← HU.out] at r1)
        | fail)
      have hfit : (S.fileOf k).b.length ≤ U := by
        rw [HU.out, bulk_eq, bulk_without hI.nice hf]
        exact Nat.le_add_right _ _
      have hbl2 : ((S.fileOf k).b ++ bs).length = (S.fileOf k).b.length + len := by rw [List.length_append, HSz.out]
      have hfo' := fun j => fileOf_set S.ask.1 k j ⟨(S.fileOf k).b ++ bs, (S.fileOf k).last⟩ (by rw [qf]; exact hkl)
      rw [qf] at hfo'
      have hro : (Value.slice (g.fl k).a (S.fileOf k).b.length (g.fl k).cap).ownBlock = (g.fl k).row := FG.row_eq _ _ _
      rw [hro] at hg3 hl3
      have hrow3 : ∀ b, (FG.mk (g.fl k).blk a3 c3).row = some b → (g.fl k).row = some b ∨ w2.heap.size ≤ b := fun b e => by
        rw [← FG.row_eq _ ((S.fileOf k).b.length + len) c3] at e
        rcases hl3 with h | h
        · exact .inl (by rw [← h]; exact e)
        · right
          rw [e] at h
          obtain rfl := Option.some.inj h
          exact Nat.le_refl _
      have hcC : Chg (fun i => i = p ∨ i = (g.fl k).blk ∨ (g.fl k).row = some i) w2 ((w3.setCell ⟨(g.fl k).blk, 0, none⟩ (.slice a3 ((S.fileOf k).b.length + len) c3)).setCell ⟨p, 1, none⟩ (.int .i64 ((U : Int) + (len : Int)))) := by
        refine Chg.set (Chg.set ?_ (fun _ => .inr (.inl rfl)) _ _) (fun _ => .inl rfl) _ _
        exact Chg.andThen ((Chg.refl _ w2).drew) (Chg.grown hg3) (fun i _ e => .inr (.inr e))
      go_returns
      rw [hS]
      refine ⟨rfl, hI2.file (k := k) (x := ⟨(S.fileOf k).b ++ bs, (S.fileOf k).last⟩) (by rw [qf]; exact hkl) rfl rfl rfl (by rw [qf]) rfl rfl ⟨rfl, rfl, rfl, rfl⟩ (by show ((S.fileOf k).b ++ bs).length ≤ _; omega) (by show (S.fileOf k).last ≤ ((S.fileOf k).b ++ bs).length; have := hI.last k; omega), g.put k ⟨(g.fl k).blk, a3, c3⟩, ?_, ?_⟩
      · refine FsAt.file h2 hk rfl hrow3 ?_ (fun j hj => by rw [hfo', if_neg hj]) rfl rfl rfl ?_ hcC
        · rw [hfo', if_pos rfl]
          refine ⟨?_, ?_⟩
          · show Box _ _ _ #[.slice a3 ((S.fileOf k).b ++ bs).length c3, _]
            rw [hbl2]
            exact (e0.set 0 _).kept (Below.heap_setCell _ _ _ _ hpk)
          · show OwnB _ 0 a3 ((S.fileOf k).b ++ bs).length c3 _
            rw [hbl2]
            refine ⟨ho3.size, row_same ho3.row fun b e => ?_⟩
            have hb : b ≠ p ∧ b ≠ (g.fl k).blk := by
              rcases hl3 with h | h
              · rw [h] at e
                exact ⟨hrp b e, hrk b e⟩
              · rw [h] at e
                obtain rfl := Option.some.inj e
                exact ⟨by simp; omega, by simp; omega⟩
            exact (Below.heap_setCell _ _ _ _ hb.1).trans (Below.heap_setCell _ _ _ _ hb.2)
        · have hbu : ({ S.ask.1 with files := S.files.set k ⟨(S.fileOf k).b ++ bs, (S.fileOf k).last⟩ } : PFs).bulk S.ask.1.names = U + len := by
            refine Nat.add_right_cancel (m := (S.ask.1.fileOf k).b.length) ((bulk_put hI2.nice (by rw [q]; exact hf) hfo').trans ?_)
            rw [hbk, ← HU.out, hfo]
            show U + ((S.fileOf k).b ++ bs).length = _
            omega
          refine Box.eq ((Box.kept e1 (Below.heap_setCell _ _ _ _ hpk.symm)).set 1 _) ?_
          unfold cellsOf FsC.arr
          simp only [hbu]
          simp
      · exact Turn.file hk rfl (fun b e => (hrow3 b e).imp id (fun h => Nat.le_trans hc2.size h)) (Chg.andThen (hc2.wide fun _ _ e => .inl e) hcC (fun _ _ e => e))
end Go.Proofs.YtmlfbihlbiikeaaGreatDoor
