/- The contracts of the document's own New, SetFuse, SetFail and ask. -/
import Derived.Test.YtkelahekfkhcfaaPaNames
import Derived.Handy
import Derived.Test.YtkelahekfkhcfaaOwnSet
import Derived.Test.YtkelahekfkhcfaaBits
namespace Go.Proofs.Ytkelahekfkhcfaa
open Go.RowKit
theorem RInv.new {q : Nat} (h : q ≤ 1048576) : RInv (PFs.new q) := ⟨Inv.new h, Nat.le_refl _⟩
set_option maxRecDepth 100000 in
theorem rnew_bad (w : World) (q : Int) (hq : ¬ (0 ≤ q ∧ q ≤ 1048576)) : Calls Try.prog 11 #[.int .i64 q] w fun e w' => e = .returned (.tuple #[.pointer none, .int .i64 1]) ∧ w' = w := by
  by_cases h1 : q < 0
  · clear hq
    go_enter Try.func11, Try.ntmps11
    go_wp2
    go_returns
    exact ⟨rfl, rfl⟩
  · have h2 : 1048576 < q := by omega
    clear hq
    go_enter Try.func11, Try.ntmps11
    go_wp2
    go_returns
    exact ⟨rfl, rfl⟩
set_option maxRecDepth 100000 in
theorem rnew_ok (w : World) (q : Int) (h1 : 0 ≤ q) (h2 : q ≤ 1048576) : Calls Try.prog 11 #[.int .i64 q] w fun e w' => e = .returned (.tuple #[at_ w.heap.size, .int .i64 0]) ∧ w' = w.alloc (.cells #[.slice none 0 0, .slice none 0 0, .slice none 0 0, .slice none 0 0, .int .i64 q, .bool false, .int .i64 0, .bool false, .int .i64 0, .int .i64 0] 69) := by
  go_enter Try.func11, Try.ntmps11
  go_wp2
  go_returns
  exact ⟨rfl, rfl⟩
theorem rnew_at (w : World) (q : Int) : Calls Try.prog 11 #[.int .i64 q] w fun e w' =>
    ((0 ≤ q ∧ q ≤ 1048576) ∧ e = .returned (.tuple #[at_ w.heap.size, .int .i64 0]) ∧ RfAt w' w.heap.size (PFs.new q.toNat) rg0 ∧ Below w.heap.size w w') ∨ (¬ (0 ≤ q ∧ q ≤ 1048576) ∧ e = .returned (.tuple #[.pointer none, .int .i64 1]) ∧ w' = w) := by
  by_cases h : 0 ≤ q ∧ q ≤ 1048576
  · refine (rnew_ok w q h.1 h.2).mono ?_
    rintro e w' ⟨rfl, rfl⟩
    refine .inl ⟨h, rfl, ⟨?_, World.ownsRow_nil _ _ _ 2, rfl, (fun r hr => by cases hr), OwnN.nil _ _, OwnN.nil _ _, World.ownsRow_nil _ _ _ 4⟩, (Below.refl _ _).alloc (Nat.le_refl _) _⟩
    refine Box.eq (Box.new w _ _) ?_
    have e : max q 0 = q := by omega
    simp [rcOf, RC.arr, PFs.new, rg0, e]
  · refine (rnew_bad w q h).mono ?_
    rintro e w' ⟨rfl, rfl⟩
    exact .inr ⟨h, rfl, rfl⟩
set_option maxRecDepth 100000 in
theorem rfuse_at {w : World} {p : Nat} {S : PFs} {g : RG} (h : RfAt w p S g) (hI : RInv S) (n : Int) (hn : -9223372036854775808 ≤ n ∧ n ≤ 9223372036854775807) : Calls Try.prog 37 #[at_ p, .int .i64 n] w fun e w' => e = .returned (.tuple #[]) ∧ RInv (S.setFuse n) ∧ RfAt w' p (S.setFuse n) g ∧ RTurn p g g w w' := by
  have hI' : RInv (S.setFuse n) := ⟨⟨hI.inv.asked, hI.inv.quota, fun e => ⟨of_decide_eq_true e, hn.2⟩, hI.inv.fail, hI.inv.lasts, hI.inv.chain, hI.inv.count, hI.inv.lens, hI.inv.last, hI.inv.fresh⟩, hI.some_⟩
  have s5 := Box.soft h.fs 5
  have s6 := Box.soft h.fs 6
  obtain ⟨q0, q1, q2, q3, q4, q5, q6, _⟩ := h.fs.cells
  have HF : Hid (RfAt w p S g) := h
  clear h q0 q1 q2 q3
  go_enter Try.func37, Try.ntmps37
  go_wp2
  go_returns
  have hch : Chg (fun k => k = p) w ((w.setCell ⟨p, 5, none⟩ (.bool (decide (0 ≤ n)))).setCell ⟨p, 6, none⟩ (.int .i64 n)) := ((Chg.refl (fun k => k = p) w).set (p := p) (fun _ => rfl) 5 _).set (p := p) (fun _ => rfl) 6 _
  refine ⟨rfl, hI', HF.out.frame (fun k hk => hch.block k (HF.out.foot_lt (.inr hk)) (HF.out.in_ne hk)) ?_ rfl rfl rfl rfl, RTurn.own hch⟩
  exact Box.eq (Box.set (Box.set HF.out.fs 5 _) 6 _) rfl
set_option maxRecDepth 100000 in
theorem rfail_at {w : World} {p : Nat} {S : PFs} {g : RG} (h : RfAt w p S g) (hI : RInv S) (n : Int) (hn : -9223372036854775808 ≤ n ∧ n ≤ 9223372036854775807) : Calls Try.prog 38 #[at_ p, .int .i64 n] w fun e w' => e = .returned (.tuple #[]) ∧ RInv (S.setFail n) ∧ RfAt w' p (S.setFail n) g ∧ RTurn p g g w w' := by
  have hI' : RInv (S.setFail n) := ⟨⟨hI.inv.asked, hI.inv.quota, hI.inv.fuse, fun e => ⟨of_decide_eq_true e, hn.2⟩, hI.inv.lasts, hI.inv.chain, hI.inv.count, hI.inv.lens, hI.inv.last, hI.inv.fresh⟩, hI.some_⟩
  have s7 := Box.soft h.fs 7
  have s8 := Box.soft h.fs 8
  obtain ⟨q0, q1, q2, q3, q4, q5, q6, q7, q8, _⟩ := h.fs.cells
  have HF : Hid (RfAt w p S g) := h
  clear h q0 q1 q2 q3
  go_enter Try.func38, Try.ntmps38
  go_wp2
  go_returns
  have hch : Chg (fun k => k = p) w ((w.setCell ⟨p, 7, none⟩ (.bool (decide (0 ≤ n)))).setCell ⟨p, 8, none⟩ (.int .i64 n)) := ((Chg.refl (fun k => k = p) w).set (p := p) (fun _ => rfl) 7 _).set (p := p) (fun _ => rfl) 8 _
  refine ⟨rfl, hI', HF.out.frame (fun k hk => hch.block k (HF.out.foot_lt (.inr hk)) (HF.out.in_ne hk)) ?_ rfl rfl rfl rfl, RTurn.own hch⟩
  exact Box.eq (Box.set (Box.set HF.out.fs 7 _) 8 _) rfl
def RC.ask (c : RC) : RC × Int :=
  if (c.ub && (c.un == 0)) = true then ({ c with o := c.o + 1 }, 44)
  else if c.ib = true then
    (if (c.jn == 0) = true then ({ c with o := c.o + 1, un := if c.ub then c.un - 1 else c.un, ib := false }, 45)
     else ({ c with o := c.o + 1, un := if c.ub then c.un - 1 else c.un, jn := c.jn - 1 }, 0))
  else ({ c with o := c.o + 1, un := if c.ub then c.un - 1 else c.un }, 0)
set_option maxRecDepth 100000 in
set_option maxHeartbeats 1000000 in
theorem rask_any (w : World) (p : Nat) (c : RC) (h : RB w p c) (ho : 0 ≤ c.o ∧ c.o ≤ 2000000) (hf : c.ub = true → 0 ≤ c.un ∧ c.un ≤ 9223372036854775807) (hs : c.ib = true → 0 ≤ c.jn ∧ c.jn ≤ 9223372036854775807) :
    Calls Try.prog 56 #[at_ p] w fun e w' => e = .returned (.int .i64 c.ask.2) ∧ RB w' p c.ask.1 ∧ w.grownBy w' (some p) := by
  obtain ⟨c0, c1, c2, c3, c4, c5, c6, c7, c8, c9⟩ := h.cells
  have f6 := Box.soft h 6
  have f7 := Box.soft h 7
  have f8 := Box.soft h 8
  have f9 := Box.soft h 9
  have hlt := Box.lt h
  obtain ⟨fa, fl, fc, na, nl, nc, la, ll, lc, sa, sl, sc, q, ub, un, ib, jn, o⟩ := c
  simp only at c0 c1 c2 c3 c4 c5 c6 c7 c8 c9 ho hf hs
  clear c0 c1 c2 c3 c4
  cases ub <;> cases ib
  all_goals
    simp only [true_implies, Bool.false_eq_true, false_implies] at hf hs
    go_enter Try.func56, Try.ntmps56
    go_wp2
  all_goals go_returns
  all_goals
    refine ⟨ret1 ?_, ?_, ?_⟩
    · simp [RC.ask, *]
    · apply Box.eq
      · repeat (first | with_reducible apply Box.alloc | with_reducible apply Box.set)
        exact h
      · simp [RC.ask, RC.arr, *]
    · repeat (first | with_reducible apply grown_alloc | with_reducible apply grown_set)
      exact World.grownBy.refl _ _
theorem rask_cells (S : PFs) (g : RG) : (rcOf S g).ask = (rcOf S.ask.1 g, ((S.ask.2 : Nat) : Int)) := by
  obtain ⟨q, n, l, s⟩ := ask_same S
  unfold rcOf RC.ask
  rw [q, n, l, s.1]
  unfold PFs.ask PFs.off
  cases hf : S.fused <;> cases hs : S.fails <;> by_cases h0 : S.fuse = 0 <;> by_cases h1 : S.fail = 0 <;> simp [h0, h1]
theorem RInv.begun {S : PFs} (h : RInv S) (ha : S.asked < 1000000) : RInv S.ask.1 := ⟨h.inv.begun ha, by
  obtain ⟨q, n, l, s, t, u⟩ := ask_same S
  have := h.some_
  rw [s, u]
  omega⟩
theorem rask_at {w : World} {p : Nat} {S : PFs} {g : RG} (h : RfAt w p S g) (hI : RInv S) (ha : S.asked < 1000000) : Calls Try.prog 56 #[at_ p] w fun e w' => e = .returned (.int .i64 (S.ask.2 : Nat)) ∧ RfAt w' p S.ask.1 g ∧ RInv S.ask.1 ∧ Chg (fun k => k = p) w w' := by
  obtain ⟨q, n, l, s, _⟩ := ask_same S
  refine (rask_any w p (rcOf S g) h.fs ?_ hI.inv.fuse hI.inv.fail).mono ?_
  · have := hI.inv.asked
    simp [rcOf]
    omega
  · rw [rask_cells]
    rintro e w' ⟨rfl, hb, hg⟩
    exact ⟨rfl, h.frame (fun k hk => hg.block k (h.foot_lt (.inr hk)) (fun e => h.in_ne hk (Option.some.inj e))) hb q n l s, hI.begun ha, (Chg.grown hg).wide fun k _ e => (Option.some.inj e).symm⟩
end Go.Proofs.Ytkelahekfkhcfaa
/- The contracts of the document's own SyncDir, Sync and Read. -/
namespace Go.Proofs.Ytkelahekfkhcfaa
open Go.RowKit
section
variable {w w' : World} {p : Nat} {S S' : PFs} {g : RG}
theorem rfind_at (h : RfAt w p S g) (name : ByteArray) : Calls Try.prog 58 #[.slice g.na S.names.length g.nc, .string name] w fun e w' => w' = w ∧ ((findN S.names name.data.toList = none ∧ e = .returned (.int .i64 (-1))) ∨ ∃ i k, findN S.names name.data.toList = some k ∧ i < S.names.length ∧ (S.names.getD i name0).file = k ∧ e = .returned (.int .i64 ((i : Nat) : Int))) := by
  have := rfind_any g.na S.names.length g.nc S.names name.data.toList w h.names.ns
  rw [strOf_self] at this
  refine this.mono ?_
  rintro e w' ⟨rfl, rfl⟩
  refine ⟨rfl, ?_⟩
  have hp := placeN_file S.names name.data.toList
  cases hn : placeN S.names name.data.toList with
  | none =>
    rw [hn] at hp
    exact .inl ⟨hp, rfl⟩
  | some i =>
    rw [hn] at hp
    exact .inr ⟨i, _, hp, placeN_lt hn, rfl, rfl⟩
theorem RfAt.nameAt (h : RfAt w p S g) {i : Nat} (hi : i < S.names.length) : ∃ b off, g.na = some ⟨b, off, none⟩ ∧ w.cell? ⟨b, off + i * 2, none⟩ = some (.string (strOf (S.names.getD i name0).name)) ∧ w.cell? ⟨b, off + i * 2 + 1, none⟩ = some (.int .i64 (((S.names.getD i name0).file : Nat) : Int)) ∧ S.names.length ≤ g.nc ∧ g.nc ≤ maxLen := by
  obtain ⟨b, off, e, hc⟩ := h.names.ns.here (by omega)
  exact ⟨b, off, e, (hc i hi).1, (hc i hi).2, h.names.ns.le, h.names.ns.max⟩
theorem RfAt.cellsAt (h : RfAt w p S g) {k : Nat} (hk : k < S.files.length) : ∃ fr, g.fa = some ⟨fr, 0, none⟩ ∧ w.cell? ⟨fr, k * 2, none⟩ = some (g.fl.getD k rf0).v ∧ w.cell? ⟨fr, k * 2 + 1, none⟩ = some (g.fl.getD k rf0).n ∧ (∀ j, w.frozen? ⟨fr, j, none⟩ = false) ∧ S.files.length ≤ g.fc ∧ g.fc ≤ maxLen := by
  have hl := h.count
  obtain ⟨c0, c1⟩ := cellsF_at g.fl k (by omega)
  rcases h.row.2 with ⟨hv, h0⟩ | ⟨fr, cp, cur, hv, hB, hg, h1, h2, h3, h4⟩
  · omega
  · simp only [Value.slice.injEq, true_and] at hv
    obtain ⟨e1, rfl⟩ := hv
    have hrow := h.row
    rw [e1] at hrow
    have p0 := World.ownsRow.cellAt hrow (k * 2) (by omega)
    have p1 := World.ownsRow.cellAt hrow (k * 2 + 1) (by omega)
    rw [c0] at p0
    rw [c1] at p1
    exact ⟨fr, e1, p0, p1, fun j => by simp [World.frozen?, hg], h1, h2⟩
theorem RfAt.mem (h : RfAt w p S g) {k : Nat} (hk : k < S.files.length) : g.fl.getD k rf0 ∈ g.fl := by
  have hl := h.count
  have : k < g.fl.length := by omega
  simp [List.getD, this]
/-- One file is put otherwise. -/
theorem RfAt.put (h : RfAt w p S g) {k : Nat} {r : RF} (hrow : w'.ownsRow 0 76 2 (.slice g.fa S.files.length g.fc) S.files.length (cellsF (g.fl.set k r))) (hb : OwnB w' 0 r.a r.x.b.length r.cap r.x.b) (hc : Chg (fun i => blkOf g.fa = some i) w w')
    (e1 : S'.names = S.names) (e2 : S'.lasts = S.lasts) (e3 : S'.since = S.since) (e4 : S'.files = S.files.set k r.x) (e5 : S'.quota = S.quota ∧ S'.fused = S.fused ∧ S'.fuse = S.fuse ∧ S'.fails = S.fails ∧ S'.fail = S.fail ∧ S'.asked = S.asked) : RfAt w' p S' { g with fl := g.fl.set k r } where
  fs := by
    have e : rcOf S' { g with fl := g.fl.set k r } = rcOf S g := by
      unfold rcOf
      rw [e1, e2, e3, e4, e5.1, e5.2.1, e5.2.2.1, e5.2.2.2.1, e5.2.2.2.2.1, e5.2.2.2.2.2, List.length_set]
    rw [e]
    exact Box.kept h.fs (hc.block p (tag_lt h.tagP) (fun e => tag_ne (h.tagF e) h.tagP (by decide) rfl))
  row := by rw [e4, List.length_set]; exact hrow
  eq := by rw [e4, h.eq, List.map_set]
  bytes := fun r' hr' => by
    rcases List.mem_or_eq_of_mem_set hr' with hm | rfl
    · exact (h.bytes r' hm).same fun b e => hc.block b (tag_lt (h.tagB hm e)) (fun e' => tag_ne (h.tagF e') (h.tagB hm e) (by decide) rfl)
    · exact hb
  names := by rw [e1]; exact h.names.same fun b e => hc.block b (tag_lt (h.tagN e)) (fun e' => tag_ne (h.tagF e') (h.tagN e) (by decide) rfl)
  lasts := by rw [e2]; exact h.lasts.same fun b e => hc.block b (tag_lt (h.tagL e)) (fun e' => tag_ne (h.tagF e') (h.tagL e) (by decide) rfl)
  since := by rw [e3]; exact row_same h.since fun b e => hc.block b (tag_lt (row_tag h.since e)) (fun e' => tag_ne (h.tagF e') (row_tag h.since e) (by decide) rfl)
theorem RTurn.put {k : Nat} {r : RF} (hr : ∀ b, blkOf r.a = some b → (∃ r' ∈ g.fl, blkOf r'.a = some b) ∨ w.heap.size ≤ b) (hc : Chg (fun i => i = p ∨ blkOf g.fa = some i) w w') : RTurn p g { g with fl := g.fl.set k r } w w' := by
  refine ⟨hc.wide fun i _ e => e.imp id .inl, fun i hi => ?_⟩
  rcases hi with e | e | e | e | ⟨r', hr', e⟩
  · exact .inl (.inl e)
  · exact .inl (.inr (.inl e))
  · exact .inl (.inr (.inr (.inl e)))
  · exact .inl (.inr (.inr (.inr (.inl e))))
  · rcases List.mem_or_eq_of_mem_set hr' with hm | rfl
    · exact .inl (.inr (.inr (.inr (.inr ⟨r', hm, e⟩))))
    · exact (hr i e).imp (fun h => .inr (.inr (.inr (.inr h)))) id
theorem RInv.file {k : Nat} {x : PFile} (h : RInv S) (hk : k < S.files.length) (hx : x.b.length ≤ 1048576) (hl : x.last ≤ x.b.length) : RInv { S with files := S.files.set k x } :=
  ⟨h.inv.file (k := k) (x := x) hk rfl rfl rfl rfl rfl rfl ⟨rfl, rfl, rfl, rfl⟩ hx hl, by show (S.files.set k x).length ≤ _; rw [List.length_set]; exact h.some_⟩
end
theorem cellsF_setN (l : List RF) (k : Nat) (r : RF) (hv : (cellsF l)[k * 2]? = some r.v) : (cellsF l).set (k * 2 + 1) r.n = cellsF (l.set k r) := by
  rw [cellsF_set]
  congr 1
  obtain ⟨h1, h2⟩ := List.getElem?_eq_some_iff.1 hv
  rw [← h2, List.set_getElem_self]
theorem cellsF_setV (l : List RF) (k : Nat) (r : RF) (hn : (cellsF l)[k * 2 + 1]? = some r.n) : (cellsF l).set (k * 2) r.v = cellsF (l.set k r) := by
  rw [cellsF_set, List.set_comm _ _ (by omega)]
  congr 1
  obtain ⟨h1, h2⟩ := List.getElem?_eq_some_iff.1 hn
  rw [← h2, List.set_getElem_self]
theorem find_file {S : PFs} (hI : Inv S) {name : List UInt8} {k : Nat} (hf : findN S.names name = some k) : k < S.files.length := by
  obtain ⟨x, hx, _, hxk⟩ := find_mem hf
  rw [← hxk]
  exact (hI.nice.good x hx).2
set_option maxRecDepth 100000 in
set_option maxHeartbeats 1000000 in
theorem rsyncDir_at {w : World} {p : Nat} {S : PFs} {g : RG} (h : RfAt w p S g) (hI : RInv S) (ha : S.asked < 1000000) : Calls Try.prog 35 #[at_ p] w fun e w' => e = .returned (.int .i64 (S.syncDir.2 : Nat)) ∧ RInv S.syncDir.1 ∧ ∃ g', RfAt w' p S.syncDir.1 g' ∧ RTurn p g g' w w' := by
  obtain ⟨q, ql, qs, qf, qq, qa⟩ := ask_same S
  go_enter Try.func35, Try.ntmps35
  go_wp2_with fail
  refine (rask_at h hI ha).mono ?_
  rintro e w2 ⟨rfl, h2, hI2, hc2⟩
  by_cases h0 : S.ask.2 = 0
  case neg =>
    have hS : S.syncDir = S.ask := by rw [PFs.syncDir, if_pos h0]
    obtain ⟨er, her⟩ : ∃ er : Int, er = ((S.ask.2 : Nat) : Int) := ⟨_, rfl⟩
    have hne : er ≠ 0 := by omega
    have HE : Hid (er = ((S.ask.2 : Nat) : Int)) := her
    rw [← her]
    clear her
    go_wp2
    go_returns
    rw [hS]
    exact ⟨ret1 (congrArg (Value.int .i64) HE.out), hI2, g, h2, RTurn.own hc2⟩
  case pos =>
    rw [h0]
    have hS : S.syncDir = ({ S.ask.1 with lasts := S.names, since := [] }, 0) := by rw [PFs.syncDir, if_neg (by omega)]
    obtain ⟨q0, q1, q2, q3, _⟩ := h2.fs.cells
    have s2 := Box.soft h2.fs 2
    have s3 := Box.soft h2.fs 3
    simp only [rcOf] at q1
    have HF : Hid (RfAt w2 p S.ask.1 g) := h2
    have HQ : Hid (S.ask.1.names = S.names ∧ S.ask.1.lasts = S.lasts ∧ S.ask.1.since = S.since ∧ S.ask.1.files = S.files) := ⟨q, ql, qs, qf⟩
    have HI2 : Hid (RInv S.ask.1) := hI2
    clear h2 q0 q ql qs qf hI2
    go_wp2
    go_returns
    have hch : Chg (fun k => k = p) w2 ((w2.setCell ⟨p, 2, none⟩ (.slice g.na S.ask.1.names.length g.nc)).setCell ⟨p, 3, none⟩ (.slice none 0 0)) := ((Chg.refl (fun k => k = p) w2).set (p := p) (fun _ => rfl) 2 _).set (p := p) (fun _ => rfl) 3 _
    have hs : ∀ k, RIn g k → ((w2.setCell ⟨p, 2, none⟩ (.slice g.na S.ask.1.names.length g.nc)).setCell ⟨p, 3, none⟩ (.slice none 0 0)).heap[k]? = w2.heap[k]? := fun k hk => hch.block k (HF.out.foot_lt (.inr hk)) (HF.out.in_ne hk)
    have hN := HF.out.names.same fun b e => hs b (.inr (.inl e))
    have hI3 := HI2.out.inv
    obtain ⟨q, ql, qs, qf⟩ := HQ.out
    rw [hS]
    refine ⟨rfl, ⟨⟨hI3.asked, hI3.quota, hI3.fuse, hI3.fail, ?_, ?_, ?_, hI3.lens, hI3.last, ?_⟩, HI2.out.some_⟩, { g with la := g.na, lc := g.nc, sa := none, sc := 0 }, ⟨?_, ?_, HF.out.eq, fun r hr => (HF.out.bytes r hr).same fun b e => hs b (.inr (.inr (.inr (.inr ⟨r, hr, e⟩)))), hN, ?_, World.ownsRow_nil _ _ _ 4⟩, ⟨(Chg.andThen hc2 hch (fun _ _ e => e)).wide fun _ _ e => .inl e, fun k hk => ?_⟩⟩
    · show Nice S.ask.1.files.length S.names
      rw [← q]
      exact hI3.nice
    · show S.names = S.ask.1.names
      rw [q]
    · show S.names.length + 0 ≤ S.ask.1.asked
      have := Chain.length hI3.chain
      have := hI3.count
      rw [← q]
      omega
    · show (S.names.map (·.file) ++ news []).Nodup
      rw [show news [] = [] from rfl, List.append_nil]
      exact hI.inv.nice.files
    · refine Box.eq (Box.set (Box.set HF.out.fs 2 _) 3 _) ?_
      simp [rcOf, RC.arr, q]
    · exact row_same HF.out.row fun b e => hs b (.inl (by rw [← own_blk g.fa]; exact e))
    · show OwnN _ 0 g.na S.names.length g.nc S.names
      rw [← q]
      exact hN
    · rcases hk with e | e | e | e | e
      · exact .inl (.inl e)
      · exact .inl (.inr (.inl e))
      · exact .inl (.inr (.inl e))
      · cases e
      · exact .inl (.inr (.inr (.inr (.inr e))))
end Go.Proofs.Ytkelahekfkhcfaa
/- The contracts of the document's own Sync and Read. -/
namespace Go.Proofs.Ytkelahekfkhcfaa
open Go.RowKit
set_option maxRecDepth 100000 in
set_option maxHeartbeats 1000000 in
theorem rsync_at {w : World} {p : Nat} {S : PFs} {g : RG} (h : RfAt w p S g) (hI : RInv S) (ha : S.asked < 1000000) (name : ByteArray) : Calls Try.prog 32 #[at_ p, .string name] w fun e w' => e = .returned (.int .i64 ((S.sync name.data.toList).2 : Nat)) ∧ RInv (S.sync name.data.toList).1 ∧ ∃ g', RfAt w' p (S.sync name.data.toList).1 g' ∧ RTurn p g g' w w' := by
  obtain ⟨q, ql, qs, qf, qq, qa⟩ := ask_same S
  go_enter Try.func32, Try.ntmps32
  go_wp2_with fail
  refine (rask_at h hI ha).mono ?_
  rintro e w2 ⟨rfl, h2, hI2, hc2⟩
  by_cases h0 : S.ask.2 = 0
  case neg =>
    have hS : S.sync name.data.toList = S.ask := by rw [PFs.sync, if_pos h0]
    obtain ⟨er, her⟩ : ∃ er : Int, er = ((S.ask.2 : Nat) : Int) := ⟨_, rfl⟩
    have hne : er ≠ 0 := by omega
    have HE : Hid (er = ((S.ask.2 : Nat) : Int)) := her
    rw [← her]
    clear her
    go_wp2
    go_returns
    rw [hS]
    exact ⟨ret1 (congrArg (Value.int .i64) HE.out), hI2, g, h2, RTurn.own hc2⟩
  case pos =>
    rw [h0]
    obtain ⟨q0, q1, _⟩ := h2.fs.cells
    have hfd := rfind_at h2 name
    simp only [rcOf] at q0 q1
    rw [q] at q1 hfd
    rw [qf] at q0
    have HF : Hid (RfAt w2 p S.ask.1 g) := h2
    have HQ : Hid (S.ask.1.names = S.names ∧ S.ask.1.lasts = S.lasts ∧ S.ask.1.since = S.since ∧ S.ask.1.files = S.files) := ⟨q, ql, qs, qf⟩
    have HI2 : Hid (RInv S.ask.1) := hI2
    have H0 : Hid (S.ask.2 = 0) := h0
    clear h2 q ql qs qf hI2 h0
    go_wp2_with fail
    refine hfd.mono ?_
    rintro e w3 ⟨hw3, (⟨hf, rfl⟩ | ⟨i, k, hf, hi, hik, rfl⟩)⟩
    · obtain rfl : w3 = w2 := hw3
      have hS : S.sync name.data.toList = (S.ask.1, 42) := by rw [PFs.sync, if_neg (by have := H0.out; omega), hf]
      go_wp2
      go_returns
      rw [hS]
      exact ⟨rfl, HI2.out, g, HF.out, RTurn.own hc2⟩
    · obtain rfl : w3 = w2 := hw3
      have hS : S.sync name.data.toList = ({ S.ask.1 with files := S.files.set k ⟨(S.fileOf k).b, (S.fileOf k).b.length⟩ }, 0) := by rw [PFs.sync, if_neg (by have := H0.out; omega), hf]
      have HS : Hid (S.sync name.data.toList = ({ S.ask.1 with files := S.files.set k ⟨(S.fileOf k).b, (S.fileOf k).b.length⟩ }, 0)) := hS
      clear hS
      have hk := find_file hI.inv hf
      obtain ⟨qn, ql, qs, qf⟩ := HQ.out
      obtain ⟨nb, noff, hna, n0, n1, hnc, hnm⟩ := HF.out.nameAt (i := i) (by rw [qn]; exact hi)
      obtain ⟨fr, hfa, c0, c1, fz, hfc, hfm⟩ := HF.out.cellsAt (k := k) (by rw [qf]; exact hk)
      have hfx := HF.out.fileAt k
      have hfo : S.ask.1.fileOf k = S.fileOf k := by unfold PFs.fileOf; rw [qf]
      rw [hfo] at hfx
      rw [qn] at n1 hnc
      rw [qf] at hfc
      rw [hik] at n1
      rw [hna] at q1 ⊢
      rw [hfa] at q0
      unfold maxLen at hnm hfm
      have hbl : (S.fileOf k).b.length ≤ 1048576 := hI.inv.lens k
      have hrv : (g.fl.getD k rf0).v = .slice (g.fl.getD k rf0).a (S.fileOf k).b.length (g.fl.getD k rf0).cap := by rw [← hfx]; rfl
      have HM : Hid (g.fl.getD k rf0 ∈ g.fl) := HF.out.mem (by rw [qf]; exact hk)
      rw [hrv] at c0
      have HFX : Hid ((g.fl.getD k rf0).x = S.fileOf k) := hfx
      have HFA : Hid (g.fa = some ⟨fr, 0, none⟩) := hfa
      have HBY := HF.out.bytes _ HM.out
      have HBY' : Hid (OwnB w3 0 (g.fl.getD k rf0).a (S.fileOf k).b.length (g.fl.getD k rf0).cap (S.fileOf k).b) := by rw [← hfx]; exact HBY
      have f1 := fz (k * 2 + 1)
      have hki1 : (0 : Int) ≤ (k : Int) := by omega
      have hki2 : (k : Int) < (S.files.length : Int) := by omega
      have hii1 : (0 : Int) ≤ (i : Int) := by omega
      have hii2 : (i : Int) < (S.names.length : Int) := by omega
      have hcl := (cellsF_at g.fl k (by rw [HF.out.count, qf]; exact hk)).1
      have HCL : Hid ((cellsF g.fl)[k * 2]? = some (RF.v ⟨(g.fl.getD k rf0).a, (g.fl.getD k rf0).cap, ⟨(S.fileOf k).b, (S.fileOf k).b.length⟩⟩)) := by
        rw [hrv] at hcl
        exact hcl
      have c1' : w3.cell? ⟨fr, k * 2 + 1, none⟩ = some (.int .i64 (((g.fl.getD k rf0).x.last : Nat) : Int)) := c1
      clear qn ql qs qf hfx hfa HBY hrv hcl n0 c1 fz hna hfo
      go_wp2
      go_region
      go_wp2
      go_returns
      rw [HS.out]
      have HFD : RfAt w3.drew p S.ask.1 g := HF.out.kept fun _ _ => rfl
      have HBYD : OwnB w3.drew 0 (g.fl.getD k rf0).a (S.fileOf k).b.length (g.fl.getD k rf0).cap (S.fileOf k).b := HBY'.out.same fun _ _ => rfl
      obtain ⟨qn, ql, qs, qf⟩ := HQ.out
      have hrow := (HFD.row)
      rw [HFA.out] at hrow
      have hst := (hrow.stored (k * 2 + 1) (.int .i64 (((S.fileOf k).b.length : Nat) : Int))).1
      have hset := cellsF_setN g.fl k ⟨(g.fl.getD k rf0).a, (g.fl.getD k rf0).cap, ⟨(S.fileOf k).b, (S.fileOf k).b.length⟩⟩ HCL.out
      rw [show RF.n ⟨(g.fl.getD k rf0).a, (g.fl.getD k rf0).cap, ⟨(S.fileOf k).b, (S.fileOf k).b.length⟩⟩ = .int .i64 (((S.fileOf k).b.length : Nat) : Int) from rfl] at hset
      rw [hset, ← HFA.out] at hst
      have hch : Chg (fun i => blkOf g.fa = some i) w3.drew (w3.drew.setCell ⟨fr, k * 2 + 1, none⟩ (.int .i64 (((S.fileOf k).b.length : Nat) : Int))) := (Chg.refl _ w3.drew).set (p := fr) (fun _ => by rw [HFA.out]; rfl) _ _
      refine ⟨rfl, ?_, { g with fl := g.fl.set k ⟨(g.fl.getD k rf0).a, (g.fl.getD k rf0).cap, ⟨(S.fileOf k).b, (S.fileOf k).b.length⟩⟩ }, ?_, ?_⟩
      · have := HI2.out.file (k := k) (x := ⟨(S.fileOf k).b, (S.fileOf k).b.length⟩) (by rw [qf]; exact hk) hbl (Nat.le_refl _)
        rw [qf] at this
        exact this
      · exact HFD.put hst (HBYD.same fun b e => hch.block b (tag_lt (HFD.tagB HM.out e)) (fun e' => tag_ne (HFD.tagF e') (HFD.tagB HM.out e) (by decide) rfl)) hch rfl rfl rfl (by rw [qf]) ⟨rfl, rfl, rfl, rfl, rfl, rfl⟩
      · exact RTurn.put (fun b e => .inl ⟨_, HM.out, e⟩) (Chg.andThen (hc2.wide fun _ _ e => .inl e).drew hch (fun _ _ e => .inr e))
end Go.Proofs.Ytkelahekfkhcfaa
/- The contract of the document's own Read. -/
namespace Go.Proofs.Ytkelahekfkhcfaa
open Go.RowKit
set_option maxRecDepth 100000 in
set_option maxHeartbeats 1000000 in
theorem rread_off {w : World} {p : Nat} {S : PFs} {g : RG} (h : RfAt w p S g) (hoff : S.off = true) (name : ByteArray) : Calls Try.prog 36 #[at_ p, .string name] w fun e w' => e = .returned (.tuple #[.slice none 0 0, .int .i64 44]) ∧ Below w.heap.size w w' := by
  obtain ⟨q0, q1, q2, q3, q4, q5, q6, _⟩ := h.fs.cells
  simp only [rcOf] at q5 q6
  have hoff' : (S.fused && (S.fuse == 0)) = true := hoff
  obtain ⟨h1, h2⟩ := Bool.and_eq_true_iff.1 hoff'
  rw [h1] at q5
  have h3 : S.fuse = 0 := by simpa using h2
  rw [h3] at q6
  clear hoff hoff' h2 h3 q0 q1 q2 q3 q4
  go_enter Try.func36, Try.ntmps36
  go_wp2
  go_returns
  first
    | exact ⟨rfl, Below.refl _ _⟩
    | exact ⟨rfl, (Below.refl _ _).drew⟩
set_option maxRecDepth 100000 in
set_option maxHeartbeats 1000000 in
theorem rread_on {w : World} {p : Nat} {S : PFs} {g : RG} (h : RfAt w p S g) (hI : RInv S) (hoff : S.off = false) (name : ByteArray) : Calls Try.prog 36 #[at_ p, .string name] w fun e w' =>
    ∃ a c, e = .returned (.tuple #[.slice a (S.read name.data.toList).1.length c, .int .i64 ((S.read name.data.toList).2 : Nat)]) ∧ BsAt w' a (S.read name.data.toList).1.length c (S.read name.data.toList).1 ∧ Below w.heap.size w w' := by
  obtain ⟨q0, q1, q2, q3, q4, q5, q6, _⟩ := h.fs.cells
  have hfd := rfind_at h name
  simp only [rcOf] at q0 q1 q5 q6
  have hoff' : (S.fused && (S.fuse == 0)) = false := hoff
  have HO : Hid (S.off = false) := hoff
  have HF : Hid (RfAt w p S g) := h
  have HR0 : Hid (findN S.names name.data.toList = none → S.read name.data.toList = ([], 42)) := fun e => by
    rw [PFs.read, if_neg (by rw [HO.out]; decide), e]
  have HR1 : Hid (∀ k, findN S.names name.data.toList = some k → S.read name.data.toList = ((S.fileOf k).b, 0)) := fun k e => by
    rw [PFs.read, if_neg (by rw [HO.out]; decide), e]
  have HI : Hid (RInv S) := hI
  clear h q2 q3 q4 hoff hI
  have key : ∀ b : Bool, S.fused = b → Calls Try.prog 36 #[at_ p, .string name] w fun e w' =>
    ∃ a c, e = .returned (.tuple #[.slice a (S.read name.data.toList).1.length c, .int .i64 ((S.read name.data.toList).2 : Nat)]) ∧ BsAt w' a (S.read name.data.toList).1.length c (S.read name.data.toList).1 ∧ Below w.heap.size w w' := by
    intro b hb
    rw [hb] at q5 hoff'
    clear hb
    cases b
    case' true => have hz : (S.fuse == 0) = false := by simpa using hoff'
    all_goals
      clear hoff'
      go_enter Try.func36, Try.ntmps36
      go_wp2_with fail
      refine hfd.mono ?_
      rintro e w3 ⟨hw3, (⟨hf, rfl⟩ | ⟨i, k, hf, hi, hik, rfl⟩)⟩
      · obtain rfl : w3 = w := hw3
        go_wp2
        go_returns
        rw [HR0.out hf]
        exact ⟨none, 0, rfl, ⟨rfl, Nat.le_refl _, Nat.zero_le _, fun _ => rfl, fun h => absurd h (Nat.lt_irrefl _)⟩, by first | exact Below.refl _ _ | exact (Below.refl _ _).drew⟩
      · obtain rfl : w3 = w := hw3
        have hk := find_file HI.out.inv hf
        obtain ⟨nb, noff, hna, n0, n1, hnc, hnm⟩ := HF.out.nameAt (i := i) hi
        obtain ⟨fr, hfa, c0, c1, fz, hfc, hfm⟩ := HF.out.cellsAt (k := k) hk
        have hfx := HF.out.fileAt k
        rw [hik] at n1
        rw [hna] at q1 ⊢
        rw [hfa] at q0
        unfold maxLen at hnm hfm
        have hbl : (S.fileOf k).b.length ≤ 1048576 := HI.out.inv.lens k
        have hrv : (g.fl.getD k rf0).v = .slice (g.fl.getD k rf0).a (S.fileOf k).b.length (g.fl.getD k rf0).cap := by rw [← hfx]; rfl
        rw [hrv] at c0
        have HBY : Hid (OwnB w3 0 (g.fl.getD k rf0).a (S.fileOf k).b.length (g.fl.getD k rf0).cap (S.fileOf k).b) := by
          have := HF.out.bytes _ (HF.out.mem hk)
          rw [hfx] at this
          exact this
        have HRk : Hid (S.read name.data.toList = ((S.fileOf k).b, 0)) := HR1.out k hf
        have hki1 : (0 : Int) ≤ (k : Int) := by omega
        have hki2 : (k : Int) < (S.files.length : Int) := by omega
        have hii1 : (0 : Int) ≤ (i : Int) := by omega
        have hii2 : (i : Int) < (S.names.length : Int) := by omega
        clear n0 c1 fz hna hfa hfx hrv hfd hf
        go_wp2
        go_region
        go_wp2
        go_returns
        rw [HRk.out]
        exact ⟨(g.fl.getD k rf0).a, (g.fl.getD k rf0).cap, rfl, HBY.out.bs.drew, (Below.refl _ _).drew⟩
  exact key _ rfl
theorem rread_at {w : World} {p : Nat} {S : PFs} {g : RG} (h : RfAt w p S g) (hI : RInv S) (name : ByteArray) : Calls Try.prog 36 #[at_ p, .string name] w fun e w' =>
    ∃ a c, e = .returned (.tuple #[.slice a (S.read name.data.toList).1.length c, .int .i64 ((S.read name.data.toList).2 : Nat)]) ∧ BsAt w' a (S.read name.data.toList).1.length c (S.read name.data.toList).1 ∧ Below w.heap.size w w' := by
  cases ho : S.off with
  | false => exact rread_on h hI ho name
  | true =>
    have hS : S.read name.data.toList = ([], 44) := by rw [PFs.read, if_pos ho]
    refine (rread_off h ho name).mono ?_
    rintro e w' ⟨rfl, hb⟩
    rw [hS]
    exact ⟨none, 0, rfl, ⟨rfl, Nat.le_refl _, Nat.zero_le _, fun _ => rfl, fun h => absurd h (Nat.lt_irrefl _)⟩, hb⟩
end Go.Proofs.Ytkelahekfkhcfaa
/- The contract of the document's own Damage. -/
namespace Go.Proofs.Ytkelahekfkhcfaa
open Go.RowKit
set_option maxRecDepth 100000 in
set_option maxHeartbeats 1000000 in
theorem rdamage_at {w : World} {p : Nat} {S : PFs} {g : RG} (h : RfAt w p S g) (hI : RInv S) (name : ByteArray) (n : Int) (t : UInt8) (hn : -9223372036854775808 ≤ n ∧ n ≤ 9223372036854775807) : Calls Try.prog 39 #[at_ p, .string name, .int .i64 n, .int .u8 (t.toNat : Int)] w fun e w' =>
    e = .returned (.int .i64 ((S.damage name.data.toList n t).2 : Nat)) ∧ RInv (S.damage name.data.toList n t).1 ∧ ∃ g', RfAt w' p (S.damage name.data.toList n t).1 g' ∧ RTurn p g g' w w' := by
  obtain ⟨q0, q1, _⟩ := h.fs.cells
  have hfd := rfind_at h name
  simp only [rcOf] at q0 q1
  have HF : Hid (RfAt w p S g) := h
  have HI : Hid (RInv S) := hI
  clear h hI
  go_enter Try.func39, Try.ntmps39
  go_wp2_with fail
  refine hfd.mono ?_
  clear hfd
  rintro e w3 ⟨hw3, (⟨hf, rfl⟩ | ⟨i, k, hf, hi, hik, rfl⟩)⟩
  · obtain rfl : w3 = w := hw3
    have HS : Hid (S.damage name.data.toList n t = (S, 42)) := by
      show S.damage name.data.toList n t = _
      rw [PFs.damage, hf]
    clear hf
    go_wp2
    go_returns
    rw [HS.out]
    exact ⟨rfl, HI.out, g, HF.out, RTurn.same (Chg.refl _ _)⟩
  · obtain rfl : w3 = w := hw3
    have hk := find_file HI.out.inv hf
    obtain ⟨nb, noff, hna, n0, n1, hnc, hnm⟩ := HF.out.nameAt (i := i) hi
    obtain ⟨fr, hfa, c0, c1, fz, hfc, hfm⟩ := HF.out.cellsAt (k := k) hk
    have hfx := HF.out.fileAt k
    rw [hik] at n1
    rw [hna] at q1 ⊢
    rw [hfa] at q0
    unfold maxLen at hnm hfm
    have hbl : (S.fileOf k).b.length ≤ 1048576 := HI.out.inv.lens k
    have hrv : (g.fl.getD k rf0).v = .slice (g.fl.getD k rf0).a (S.fileOf k).b.length (g.fl.getD k rf0).cap := by rw [← hfx]; rfl
    rw [hrv] at c0
    have HM : Hid (g.fl.getD k rf0 ∈ g.fl) := HF.out.mem hk
    have HBY : Hid (OwnB w3 0 (g.fl.getD k rf0).a (S.fileOf k).b.length (g.fl.getD k rf0).cap (S.fileOf k).b) := by
      have := HF.out.bytes _ HM.out
      rw [hfx] at this
      exact this
    have HFX : Hid ((g.fl.getD k rf0).x = S.fileOf k) := hfx
    have HFA : Hid (g.fa = some ⟨fr, 0, none⟩) := hfa
    have hki1 : (0 : Int) ≤ (k : Int) := by omega
    have hki2 : (k : Int) < (S.files.length : Int) := by omega
    have hii1 : (0 : Int) ≤ (i : Int) := by omega
    have hii2 : (i : Int) < (S.names.length : Int) := by omega
    have c1' : w3.cell? ⟨fr, k * 2 + 1, none⟩ = some (.int .i64 (((g.fl.getD k rf0).x.last : Nat) : Int)) := c1
    obtain ⟨L, HL⟩ : ∃ L, Hid (L = (S.fileOf k).b.length) := ⟨_, rfl⟩
    rw [← HL.out] at c0 hbl
    have f0 := fz (k * 2)
    have hfrlt : fr < w3.heap.size := tag_lt (HF.out.tagF (by rw [hfa]; rfl))
    have hplt : p < w3.heap.size := tag_lt HF.out.tagP
    clear n0 c1 fz hna hfa hfx hrv
    by_cases h1 : n < 0
    · have HS : Hid (S.damage name.data.toList n t = (S, 1)) := by
        show S.damage name.data.toList n t = _
        rw [PFs.damage, hf]
        show (if _ then _ else _) = _
        rw [if_pos (.inl h1)]
      clear hf
      go_wp2
      go_returns
      rw [HS.out]
      exact ⟨rfl, HI.out, g, HF.out, RTurn.same (Chg.refl _ _)⟩
    · by_cases h2 : (L : Int) ≤ n
      · have HS : Hid (S.damage name.data.toList n t = (S, 1)) := by
          show S.damage name.data.toList n t = _
          rw [PFs.damage, hf]
          show (if _ then _ else _) = _
          rw [if_pos (.inr (by rw [← HL.out]; exact h2))]
        clear hf
        go_wp2
        go_returns
        rw [HS.out]
        exact ⟨rfl, HI.out, g, HF.out, RTurn.same (Chg.refl _ _)⟩
      · obtain ⟨j, rfl⟩ : ∃ j : Nat, n = (j : Int) := ⟨n.toNat, by omega⟩
        have hj : j < L := by omega
        have HS : Hid (S.damage name.data.toList (j : Int) t = ({ S with files := S.files.set k ⟨(S.fileOf k).b.set j ((S.fileOf k).b.getD j 0 ^^^ t), (S.fileOf k).last⟩ }, 0)) := by
          show S.damage name.data.toList (j : Int) t = _
          rw [PFs.damage, hf]
          show (if _ then _ else _) = _
          rw [if_neg (by rw [← HL.out]; omega)]
          rfl
        clear hf
        have hj1 : (j : Int) < (L : Int) := by omega
        have HBs : Hid (BsAt w3 (g.fl.getD k rf0).a L (g.fl.getD k rf0).cap (S.fileOf k).b) := by rw [HL.out]; exact HBY.out.bs
        simp only [List.getD_eq_getElem?_getD] at HBs
        go_wp2_with (first
          | (at_builtin; refine wpList_app0At w3 rfl _ _ rfl w3.heap.size rfl rfl _ _ _ (S.fileOf k).b rfl HBs.out (by omega) ?_))
        intro ab cb w4 hob hbb
        obtain ⟨gb, eab, hgB, hglt, hcell⟩ := hob.cells (by omega)
        subst eab
        have hcj := hcell j hj
        have hfz := hob.unfrozen j
        obtain ⟨y, HY⟩ : ∃ y, Hid (y = (S.fileOf k).b.getD j 0) := ⟨_, rfl⟩
        rw [← HY.out] at hcj
        have hxor : bits .xor .u8 (y.toNat : Int) (t.toNat : Int) = (((y ^^^ t).toNat : Nat) : Int) := by
          rw [nbits_xor8 y.toNat t.toNat y.toNat_lt t.toNat_lt]
          rfl
        have e0 : w4.cell? ⟨p, 0, none⟩ = _ := (hbb.cell hplt).trans q0
        have e1 : w4.cell? ⟨fr, k * 2, none⟩ = _ := (hbb.cell hfrlt).trans c0
        have e2 : w4.cell? ⟨fr, k * 2 + 1, none⟩ = _ := (hbb.cell hfrlt).trans c1'
        have e3 : w4.frozen? ⟨fr, k * 2, none⟩ = false := (hbb.frozen hfrlt).trans f0
        have hgp : gb ≠ p := by omega
        have hgf : gb ≠ fr := by omega
        have HOB : Hid (OwnB w4 w3.heap.size (some ⟨gb, 0, none⟩) L cb (S.fileOf k).b) := hob
        have HBB : Hid (Below w3.heap.size w3 w4) := hbb
        clear hob hbb hcell q0 q1 c0 c1' f0 n1
        go_wp2
        go_returns
        rw [HS.out]
        have hV : y.toNat ^^^ t.toNat = (y ^^^ t).toNat := (UInt8.toNat_xor y t).symm
        rw [hV]
        have hO5 := HOB.out.put j (y ^^^ t)
        have hb5 : Below w3.heap.size w3 (w4.setCell ⟨gb, j, none⟩ (.int .u8 (((y ^^^ t).toNat : Nat) : Int))) := HBB.out.setCell hgB _
        have hF5 := HF.out.below hb5
        obtain ⟨r, hr⟩ : ∃ r : RF, r = ⟨some ⟨gb, 0, none⟩, cb, ⟨(S.fileOf k).b.set j (y ^^^ t), (S.fileOf k).last⟩⟩ := ⟨_, rfl⟩
        have hrl : r.x.b.length = L := by rw [hr, HL.out]; exact List.length_set
        have hrv : r.v = .slice (some ⟨gb, 0, none⟩) L cb := by unfold RF.v; rw [hrl, hr]
        have hrow := hF5.row
        rw [HFA.out] at hrow
        have hst := (hrow.stored (k * 2) (.slice (some ⟨gb, 0, none⟩) L cb)).1
        have hcn := (cellsF_at g.fl k (by rw [HF.out.count]; exact hk)).2
        have hset := cellsF_setV g.fl k r (by rw [hcn, hr]; unfold RF.n; rw [HFX.out])
        rw [hrv] at hset
        rw [hset, ← HFA.out] at hst
        have hch : Chg (fun i => blkOf g.fa = some i) (w4.setCell ⟨gb, j, none⟩ (.int .u8 (((y ^^^ t).toNat : Nat) : Int))) ((w4.setCell ⟨gb, j, none⟩ (.int .u8 (((y ^^^ t).toNat : Nat) : Int))).setCell ⟨fr, k * 2, none⟩ (.slice (some ⟨gb, 0, none⟩) L cb)) := (Chg.refl _ _).set (p := fr) (fun _ => by rw [HFA.out]; rfl) _ _
        have hSx : S.files.set k ⟨(S.fileOf k).b.set j ((S.fileOf k).b.getD j 0 ^^^ t), (S.fileOf k).last⟩ = S.files.set k r.x := by rw [hr, HY.out]
        rw [hSx]
        refine ⟨rfl, HI.out.file hk (by rw [hrl]; exact hbl) (by rw [hrl, hr, HL.out]; exact HI.out.inv.last k), { g with fl := g.fl.set k r }, hF5.put hst ?_ hch rfl rfl rfl rfl ⟨rfl, rfl, rfl, rfl, rfl, rfl⟩, RTurn.put (fun b e => ?_) (Chg.andThen (Chg.below (R := fun i => i = p ∨ blkOf g.fa = some i) hb5) hch (fun _ _ e => .inr e))⟩
        · have hO6 := hO5.mono (Nat.zero_le _)
          rw [hrl]
          have e1 : r.a = some ⟨gb, 0, none⟩ := by rw [hr]
          have e2 : r.cap = cb := by rw [hr]
          have e3 : r.x.b = (S.fileOf k).b.set j (y ^^^ t) := by rw [hr]
          rw [e1, e2, e3]
          exact hO6.same fun b e => Below.heap_setCell _ _ _ _ (by obtain rfl := Option.some.inj (show some gb = some b from e); exact hgf)
        · rw [hr] at e
          obtain rfl := Option.some.inj (show some gb = some b from e)
          exact .inr hgB
end Go.Proofs.Ytkelahekfkhcfaa
/- The contract of the document's own List. -/
namespace Go.Proofs.Ytkelahekfkhcfaa
open Go.RowKit
def cellsS (l : List (List UInt8)) : List Value := l.map fun s => .string (strOf s)
structure OwnS (w : World) (B : Nat) (a : Option Addr) (len cap : Nat) (l : List (List UInt8)) : Prop where
  size : l.length = len
  row : w.ownsRow B 9 1 (.slice a len cap) len (cellsS l)
theorem infoStr : (Try.prog.info? 9).map (fun i => (i.zero, i.size, i.bytes)) = some (some (.string ByteArray.empty), 1, 16) := by kernel_rfl
theorem OwnS.nil (w : World) (B : Nat) : OwnS w B none 0 0 [] := ⟨rfl, World.ownsRow_nil w B _ 1⟩
theorem OwnS.alloc {w : World} {B : Nat} {a : Option Addr} {len cap : Nat} {l : List (List UInt8)} (h : OwnS w B a len cap l) (o : Obj) : OwnS (w.alloc o) B a len cap l := ⟨h.size, h.row.alloc o⟩
theorem OwnS.ss {w : World} {B : Nat} {a : Option Addr} {len cap : Nat} {l : List (List UInt8)} (h : OwnS w B a len cap l) : SsAt w a len cap l := by
  have hs := h.size
  rcases h.row.2 with ⟨hv, hn⟩ | ⟨g, c, cur, hv, hb, hg, hn, hc, hz, ht⟩
  · simp only [Value.slice.injEq] at hv
    obtain ⟨rfl, rfl, rfl⟩ := hv
    exact ⟨hs, Nat.le_refl _, Nat.zero_le _, fun _ => rfl, fun h0 => absurd h0 (Nat.lt_irrefl _)⟩
  · simp only [Value.slice.injEq, true_and] at hv
    obtain ⟨rfl, rfl⟩ := hv
    refine ⟨hs, hn, hc, fun h0 => by simp at h0, fun _ => ⟨g, 0, rfl, fun j hj => ?_⟩⟩
    have := h.row.cellAt j (by omega)
    rw [Nat.zero_add, this]
    have hj' : j < l.length := by omega
    simp [cellsS, List.getD, hj']
theorem OwnS.old {w : World} {B : Nat} {a : Option Addr} {len cap : Nat} {l : List (List UInt8)} (h : OwnS w B a len cap l) (ad : Addr) (e : a = some ad) : B ≤ ad.block ∧ ad.block < w.heap.size := by
  subst e
  exact h.row.lt ad.block rfl
theorem wpList_appT (w : World) {ops : Array Oper} {rest : List Oper} {o : Oper} {a : Act} {Q : Exit → Act → World → Prop} (hgd : o.guard = none) (s x : Operand)
    (ho : o.op = .call { callee := .builtin .append, args := #[s, x], argTypes := #[47, 47] })
    (B : Nat) (a1 : Option Addr) (n1 c1 : Nat) (l : List (List UInt8)) (hs : a.eval s = .slice a1 n1 c1) (hown : OwnS w B a1 n1 c1 l)
    (ad : Addr) (m : List UInt8) (hx : a.eval x = .slice (some ad) 1 1) (hsrc : w.cell? ad = some (.string (strOf m)))
    (hl : (n1 + 1) * 16 ≤ 140737488355328) (hB : B ≤ w.heap.size)
    (h : ∀ a' c' w', OwnS w' B a' (n1 + 1) c' (l ++ [m]) → Below B w w' → wpList Try.prog ops Q rest (a.put o.dst (.slice a' (n1 + 1) c')) w') :
    wpList Try.prog ops Q (o :: rest) a w := by
  obtain ⟨i, hi, hz0, hz1, hz2⟩ := info_parts infoStr
  have hlt : ∀ k, (Value.slice a1 n1 c1).ownBlock = some k → B ≤ k := fun k hk => (hown.row.lt k hk).1
  refine wpList_append_own w hgd s x _ ho B 9 i _ 1 16 Try.underlying47 hi hz0 hz1 hz2 rfl (by decide) _ n1 _ hs hown.row ad 1 1 (cellsS [m]) hx (by simp [cellsS]) (fun j u hu => ?_) (fun u hu => ?_) (by unfold maxLen; omega) (by omega) hB ?_
  · match j, hu with
    | 0, hu =>
      simp [cellsS] at hu
      rw [← hu]
      obtain ⟨b, off, pt⟩ := ad
      exact hsrc
    | j + 1, hu => simp [cellsS] at hu
  · simp [cellsS] at hu
    rw [hu]
    rfl
  · intro v' w' hr hg _
    have e : cellsS l ++ cellsS [m] = cellsS (l ++ [m]) := by simp [cellsS]
    rw [e] at hr
    have hb : Below B w w' := (Below.refl B w).grown hg hB hlt
    rcases hr.2 with ⟨hv, h0⟩ | ⟨g, cp, cur, hv, rest'⟩
    · omega
    · subst hv
      exact h _ cp w' ⟨by rw [List.length_append, hown.size]; rfl, hr⟩ hb
theorem take_s (l : List PName) (k : Nat) (h : k < l.length) : (l.take (k + 1)).map (·.name) = (l.take k).map (·.name) ++ [(l.getD k name0).name] := by
  rw [take_ns l k h, List.map_append]
  rfl
set_option maxRecDepth 100000 in
set_option maxHeartbeats 1000000 in
theorem rlist_on {w : World} {p : Nat} {S : PFs} {g : RG} (h : RfAt w p S g) (hI : RInv S) (hoff : S.off = false) : Calls Try.prog 41 #[at_ p] w fun e w' =>
    ∃ a c, e = .returned (.tuple #[.slice a S.names.length c, .int .i64 0]) ∧ OwnS w' w.heap.size a S.names.length c (S.names.map (·.name)) ∧ Below w.heap.size w w' := by
  obtain ⟨q0, q1, q2, q3, q4, q5, q6, _⟩ := h.fs.cells
  simp only [rcOf] at q1 q5 q6
  have hoff' : (S.fused && (S.fuse == 0)) = false := hoff
  have hplt := tag_lt h.tagP
  have H1 : Hid (NsAt w g.na S.names.length g.nc S.names) := h.names.ns
  have hle := h.names.ns.le
  have hmx := h.names.ns.max
  unfold maxLen at hmx
  have hfew := hI.inv.few
  obtain ⟨L, HL⟩ : ∃ L, Hid (L = S.names.length) := ⟨_, rfl⟩
  rw [← HL.out] at q1 H1 hle hfew ⊢
  clear h q0 q2 q3 q4 hoff hI
  have key : ∀ b : Bool, S.fused = b → Calls Try.prog 41 #[at_ p] w fun e w' =>
    ∃ a c, e = .returned (.tuple #[.slice a L c, .int .i64 0]) ∧ OwnS w' w.heap.size a L c (S.names.map (·.name)) ∧ Below w.heap.size w w' := by
    intro b hb
    rw [hb] at q5 hoff'
    clear hb
    cases b
    case' true => have hz : (S.fuse == 0) = false := by simpa using hoff'
    all_goals
      clear hoff'
      go_enter Try.func41, Try.ntmps41
      go_wp2_with fail
      go_loopw [4, 5] (fun o i wr => ∃ (ao : Option Addr) (k co : Nat), k ≤ L ∧ o = .slice ao k co ∧ i = .int .i64 (k : Int) ∧ Hid (OwnS wr w.heap.size ao k co ((S.names.take k).map (·.name))) ∧ Hid (Below w.heap.size w wr)) (fun _ i _ => L - (intOf i).toNat)
      case atStart => exact ⟨none, 0, 0, Nat.zero_le _, rfl, rfl, OwnS.nil _ _, Below.refl _ _⟩
      case round =>
        obtain ⟨ao, k, co, hk, rfl, rfl, HO, HB⟩ := hrel
        have hsz := HB.out.size
        have q1r : wr.cell? ⟨p, 1, none⟩ = some (.slice g.na L g.nc) := (HB.out.cell hplt).trans q1
        by_cases hlt : k < L
        · obtain ⟨b, off, hna, hc⟩ := (H1.out.below (Nat.le_refl _) HB.out).here (by omega)
          obtain ⟨p0, p1⟩ := hc k hlt
          rw [hna] at q1r
          have hx1 : (0 : Int) ≤ (k : Int) := by omega
          have hx2 : (k : Int) < (L : Int) := by omega
          have HT : Hid ((S.names.take (k + 1)).map (·.name) = (S.names.take k).map (·.name) ++ [(S.names.getD k name0).name]) := take_s S.names k (by rw [← HL.out]; exact hlt)
          generalize S.names.getD k name0 = x at p0 p1 HT
          obtain ⟨X, hX⟩ : ∃ X, strOf x.name = X := ⟨_, rfl⟩
          rw [hX] at p0
          have HX : Hid (X = strOf x.name) := hX.symm
          clear hX hc hna p1
          go_wp2_with (first
            | (at_builtin; refine wpList_appT _ rfl _ _ rfl w.heap.size _ _ _ ((S.names.take k).map (·.name)) rfl (HO.out.alloc _) _ x.name rfl (by simp [← HX.out]) (by omega) (by simp; omega) ?_))
          intro a4 c4 w4 ho4 hb4
          have HO4 : Hid (OwnS w4 w.heap.size a4 (k + 1) c4 ((S.names.take (k + 1)).map (·.name))) := by unfold Hid; rw [HT.out, List.map_take]; exact ho4
          have HB4 : Hid (Below w.heap.size w w4) := (HB.out.alloc hsz _).trans hb4
          clear ho4 hb4
          go_wp2_with fail
          go_roundw
          case rel => exact ⟨a4, k + 1, c4, by omega, rfl, by go_num, HO4.out, HB4.out⟩
          case measure => simp [intOf]; omega
        · obtain rfl : k = L := by omega
          go_wp2
          go_returns
          have hO := HO.out
          rw [HL.out, List.take_length, ← HL.out] at hO
          exact ⟨ao, co, rfl, hO, HB.out⟩
  exact key _ rfl
set_option maxRecDepth 100000 in
theorem rlist_off {w : World} {p : Nat} {S : PFs} {g : RG} (h : RfAt w p S g) (hoff : S.off = true) : Calls Try.prog 41 #[at_ p] w fun e w' => e = .returned (.tuple #[.slice none 0 0, .int .i64 44]) ∧ Below w.heap.size w w' := by
  obtain ⟨q0, q1, q2, q3, q4, q5, q6, _⟩ := h.fs.cells
  simp only [rcOf] at q5 q6
  have hoff' : (S.fused && (S.fuse == 0)) = true := hoff
  obtain ⟨h1, h2⟩ := Bool.and_eq_true_iff.1 hoff'
  rw [h1] at q5
  have h3 : S.fuse = 0 := by simpa using h2
  rw [h3] at q6
  clear hoff hoff' h2 h3 q0 q1 q2 q3 q4
  go_enter Try.func41, Try.ntmps41
  go_wp2
  go_returns
  exact ⟨rfl, Below.refl _ _⟩
theorem rlist_at {w : World} {p : Nat} {S : PFs} {g : RG} (h : RfAt w p S g) (hI : RInv S) : Calls Try.prog 41 #[at_ p] w fun e w' =>
    ∃ a c, e = .returned (.tuple #[.slice a S.list.1.length c, .int .i64 (S.list.2 : Nat)]) ∧ SsAt w' a S.list.1.length c S.list.1 ∧ (∀ ad, a = some ad → w.heap.size ≤ ad.block ∧ ad.block < w'.heap.size) ∧ Below w.heap.size w w' := by
  cases ho : S.off with
  | false =>
    have hS : S.list = (S.names.map (·.name), 0) := by rw [PFs.list, if_neg (by rw [ho]; decide)]
    refine (rlist_on h hI ho).mono ?_
    rintro e w' ⟨a, c, rfl, hO, hb⟩
    rw [hS]
    refine ⟨a, c, ?_, ?_, fun ad e => hO.old ad e, hb⟩
    · show _ = Ending.returned (.tuple #[.slice a (S.names.map (·.name)).length c, _])
      rw [List.length_map]
      rfl
    · show SsAt w' a (S.names.map (·.name)).length c _
      rw [List.length_map]
      exact hO.ss
  | true =>
    have hS : S.list = ([], 44) := by rw [PFs.list, if_pos ho]
    refine (rlist_off h ho).mono ?_
    rintro e w' ⟨rfl, hb⟩
    rw [hS]
    exact ⟨none, 0, rfl, ⟨rfl, Nat.le_refl _, Nat.zero_le _, fun _ => rfl, fun h => absurd h (Nat.lt_irrefl _)⟩, (fun ad e => by cases e), hb⟩
end Go.Proofs.Ytkelahekfkhcfaa
