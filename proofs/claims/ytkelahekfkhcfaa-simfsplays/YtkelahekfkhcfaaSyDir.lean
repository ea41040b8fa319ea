/- The contract of SyncDir, and of settle over whole file systems. -/
import Derived.Test.YtkelahekfkhcfaaSettle
namespace Go.Proofs.Ytkelahekfkhcfaa
open Go.RowKit Go.Maps
theorem settle_at {w : World} {p : Nat} {S : PFs} {g : Gh} (h : FsAt w p S g) (hI : Inv S) (n : Nat) (hn : n ≤ S.since.length) :
    Calls Try.prog 48 #[at_ p, .int .i64 (n : Int)] w fun e w' => e = .returned (.tuple #[]) ∧ ∃ ml, FsAt w' p { S with lasts := (S.since.take n).foldl changedN S.lasts, since := [] } { g with ml := ml, sa := none, sc := 0 } ∧ (ml = g.ml ∨ (g.ml = none ∧ ∃ m, ml = some m ∧ w.heap.size ≤ m)) ∧ Chg (fun i => i = p ∨ g.ml = some i) w w' := by
  refine (settle_any (c := cellsOf S g) h.fs h.lm hI.lasts hI.chain (by have := hI.count; have := hI.asked; omega) rfl h.sn n hn).mono ?_
  rintro e w' ⟨rfl, ml, hb, hm, hl0, hc⟩
  have hl : ml = g.ml ∨ (g.ml = none ∧ ∃ m, ml = some m ∧ w.heap.size ≤ m) := hl0
  refine ⟨rfl, ml, ?_, hl, hc⟩
  have hfo : ∀ k, ({ S with lasts := (S.since.take n).foldl changedN S.lasts, since := [] } : PFs).fileOf k = S.fileOf k := fun k => rfl
  refine ⟨?_, ?_, hm, ?_, World.ownsRow_nil _ _ _ 3, ?_, h.inj, h.liveN, ?_, fun c hc => by cases hc⟩
  · have e : cellsOf ({ S with lasts := (S.since.take n).foldl changedN S.lasts, since := [] } : PFs) { g with ml := ml, sa := none, sc := 0 } = { cellsOf S g with ml := ml, sa := none, sl := 0, sc := 0 } := by
      unfold cellsOf
      have : ({ S with lasts := (S.since.take n).foldl changedN S.lasts, since := [] } : PFs).bulk S.names = S.bulk S.names := by rw [bulk_eq, bulk_eq]; rfl
      rw [this]
      rfl
    rw [e]
    exact hb
  · refine h.nm.kept fun m e => hc.block m (tag_lt (h.tagN e)) ?_
    rintro (e' | e')
    · exact h.inner_ne (.inl e) e'
    · exact h.apart m e e'
  · intro m e1 e2
    have e2 : ml = some m := e2
    rcases hl with e | ⟨_, m3, e3, e4⟩
    · exact h.apart m e1 (by rw [← e, e2])
    · rw [e2] at e3
      obtain rfl := Option.some.inj e3
      exact absurd (tag_lt (h.tagN e1)) (by omega)
  · intro k hk
    rw [hfo]
    refine (h.files k hk).kept (hc.block _ (tag_lt (h.tagF hk)) ?_) fun b e => hc.block b (tag_lt (h.tagR hk e)) ?_
    · rintro (e | e)
      · exact h.inner_ne (.inr (.inr (.inr ⟨k, hk, .inl rfl⟩))) e
      · exact tag_ne (h.tagL e) (h.tagF hk) (by decide) rfl
    · rintro (e' | e')
      · exact h.inner_ne (.inr (.inr (.inr ⟨k, hk, .inr e⟩))) e'
      · exact tag_ne (h.tagL e') (h.tagR hk e) (by decide) rfl
  · exact Chain.live (Chain.take n hI.chain) h.liveL (fun c hc => h.liveS c (List.mem_of_mem_take hc))
theorem Turn.settled {w w' : World} {p : Nat} {g : Gh} {ml : Option Nat} (hl : ml = g.ml ∨ (g.ml = none ∧ ∃ m, ml = some m ∧ w.heap.size ≤ m)) (hc : Chg (fun i => i = p ∨ g.ml = some i) w w') : Turn p g { g with ml := ml, sa := none, sc := 0 } w w' where
  chg := hc.wide fun k _ e => e.elim .inl (fun e => .inr (.inr (.inl e)))
  foot := by
    rintro k (e | e | e | e)
    · exact .inl (.inl e)
    · have e : ml = some k := e
      rcases hl with e1 | ⟨_, m3, e3, e4⟩
      · exact .inl (.inr (.inl (by rw [← e1, e])))
      · rw [e] at e3
        obtain rfl := Option.some.inj e3
        exact .inr e4
    · cases e
    · exact .inl (.inr (.inr (.inr e)))
set_option maxRecDepth 100000 in
set_option maxHeartbeats 1000000 in
theorem syncDir_at {w : World} {p : Nat} {S : PFs} {g : Gh} (h : FsAt w p S g) (hI : Inv S) (ha : S.asked < 1000000) : Calls Try.prog 19 #[at_ p] w fun e w' => e = .returned (.int .i64 (S.syncDir.2 : Nat)) ∧ Inv S.syncDir.1 ∧ ∃ g', FsAt w' p S.syncDir.1 g' ∧ Turn p g g' w w' := by
  obtain ⟨q, ql, qs, qf, qq, qa⟩ := ask_same S
  go_enter Try.func19, Try.ntmps19
  go_wp2_with fail
  refine (begin_at h hI ha).mono ?_
  rintro e w2 ⟨rfl, h2, hI2, hc2⟩
  by_cases h0 : S.ask.2 = 0
  case neg =>
    have hS : S.syncDir = S.ask := by rw [PFs.syncDir, if_pos h0]
    obtain ⟨er, her⟩ : ∃ er : Int, er = ((S.ask.2 : Nat) : Int) := ⟨_, rfl⟩
    have hne : er ≠ 0 := by omega
    have HE : Hid (er = ((S.ask.2 : Nat) : Int)) := her
    rw [← her]
    clear her
    go_wp2
    go_returns
    rw [hS]
    exact ⟨ret1 (congrArg (Value.int .i64) HE.out), hI2, g, h2, Turn.same (hc2.wide fun _ _ e => .inl e)⟩
  case pos =>
    rw [h0]
    have hS : S.syncDir = ({ S.ask.1 with lasts := S.names, since := [] }, 0) := by rw [PFs.syncDir, if_neg (by omega)]
    obtain ⟨q0, q1, q2, q3, q4, q5, q6, q7, q8, q9⟩ := h2.fs.cells
    simp only [cellsOf] at q9
    rw [qs] at q9
    have hle : S.since.length ≤ 1000000 := hI.fewS
    have hcall := settle_at h2 hI2 S.since.length (by rw [qs]; exact Nat.le_refl _)
    have HQ : Hid (S.ask.1.since = S.since) := qs
    clear qs
    go_wp2_with fail
    refine hcall.mono ?_
    rintro e w3 ⟨rfl, ml, h3, hl3, hc3⟩
    have hall : (S.ask.1.since.take S.since.length).foldl changedN S.ask.1.lasts = S.names := by
      have e : S.since.length = S.ask.1.since.length := by rw [HQ.out]
      rw [e, List.take_length, ← Chain.fold hI2.chain, q]
    rw [hall] at h3
    have ht := Turn.settled hl3 hc3
    go_wp2
    go_returns
    rw [hS]
    refine ⟨rfl, ⟨hI2.asked, hI2.quota, hI2.fuse, hI2.fail, ?_, ?_, ?_, hI2.lens, hI2.last, ?_⟩, _, h3, ⟨Chg.andThen (hc2.wide fun _ _ e => .inl e) ht.chg (fun _ _ e => e), fun k hk => (ht.foot k hk).imp id (fun h => Nat.le_trans hc2.size h)⟩⟩
    · show Nice S.ask.1.files.length S.names
      rw [← q]
      exact hI2.nice
    · show S.names = S.ask.1.names
      rw [q]
    · show S.names.length + 0 ≤ S.ask.1.asked
      have := Chain.length hI2.chain
      have := hI2.count
      rw [← q]
      omega
    · show (S.names.map (·.file) ++ news []).Nodup
      rw [show news [] = [] from rfl, List.append_nil]
      exact hI.nice.files
end Go.Proofs.Ytkelahekfkhcfaa
