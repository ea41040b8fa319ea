/- The contract of Sync. -/
import Derived.Test.YtkelahekfkhcfaaBegOf
namespace Go.Proofs.Ytkelahekfkhcfaa
open Go.RowKit Go.Maps
theorem fileOf_set (S : PFs) (k j : Nat) (x : PFile) (hk : k < S.files.length) : ({ S with files := S.files.set k x } : PFs).fileOf j = if j = k then x else S.fileOf j := by
  unfold PFs.fileOf
  show (S.files.set k x).getD j file0 = _
  rw [List.getD_eq_getElem?_getD, List.getElem?_set]
  by_cases e : j = k
  · subst e
    simp [hk]
  · rw [if_neg (Ne.symm e), if_neg e, List.getD_eq_getElem?_getD]
theorem Inv.file {S S' : PFs} (h : Inv S) {k : Nat} {x : PFile} (hk : k < S.files.length) (e1 : S'.names = S.names) (e2 : S'.lasts = S.lasts) (e3 : S'.since = S.since) (e4 : S'.files = S.files.set k x) (e5 : S'.quota = S.quota) (e6 : S'.asked = S.asked) (e7 : S'.fused = S.fused ∧ S'.fuse = S.fuse ∧ S'.fails = S.fails ∧ S'.fail = S.fail) (hx : x.b.length ≤ 1048576) (hl : x.last ≤ x.b.length) : Inv S' := by
  have hfo : ∀ j, S'.fileOf j = if j = k then x else S.fileOf j := fun j => by
    rw [← fileOf_set S k j x hk]
    unfold PFs.fileOf
    rw [e4]
  have hlen : S'.files.length = S.files.length := by rw [e4, List.length_set]
  obtain ⟨f1, f2, f3, f4⟩ := e7
  refine ⟨by rw [e6]; exact h.asked, by rw [e5]; exact h.quota, by rw [f1, f2]; exact h.fuse, by rw [f3, f4]; exact h.fail, by rw [hlen, e2]; exact h.lasts, by rw [hlen, e1, e2, e3]; exact h.chain, by rw [e2, e3, e6]; exact h.count, fun j => ?_, fun j => ?_, by rw [e2, e3]; exact h.fresh⟩
  · rw [hfo]
    split
    · exact hx
    · exact h.lens j
  · rw [hfo]
    split
    · exact hl
    · exact h.last j
set_option maxRecDepth 100000 in
set_option maxHeartbeats 1000000 in
theorem sync_at {w : World} {p : Nat} {S : PFs} {g : Gh} (h : FsAt w p S g) (hI : Inv S) (ha : S.asked < 1000000) (name : ByteArray) : Calls Try.prog 18 #[at_ p, .string name] w fun e w' => e = .returned (.int .i64 ((S.sync name.data.toList).2 : Nat)) ∧ Inv (S.sync name.data.toList).1 ∧ ∃ g', FsAt w' p (S.sync name.data.toList).1 g' ∧ Turn p g g' w w' := by
  obtain ⟨q, ql, qs, qf, qq, qa⟩ := ask_same S
  go_enter Try.func18, Try.ntmps18
  go_wp2_with fail
  refine (beginOf_at h hI ha name).mono ?_
  rintro e w2 ⟨h2, hI2, hc2, (⟨er, hne, HE, rfl⟩ | ⟨h0, hf, rfl⟩ | ⟨k, h0, hf, rfl⟩)⟩
  · have hS : S.sync name.data.toList = S.ask := by
      rw [PFs.sync, if_pos (by have := HE.out; omega)]
    go_wp2
    go_returns
    rw [hS]
    exact ⟨ret1 (congrArg (Value.int .i64) HE.out), hI2, g, h2, Turn.same (hc2.wide fun _ _ e => .inl e)⟩
  · have hS : S.sync name.data.toList = (S.ask.1, 42) := by
      rw [PFs.sync, if_neg (by omega), hf]
    go_wp2
    go_returns
    rw [hS]
    exact ⟨rfl, hI2, g, h2, Turn.same (hc2.wide fun _ _ e => .inl e)⟩
  · have hS : S.sync name.data.toList = ({ S.ask.1 with files := S.files.set k ⟨(S.fileOf k).b, (S.fileOf k).b.length⟩ }, 0) := by
      rw [PFs.sync, if_neg (by omega), hf]
    obtain ⟨x, hx, _, hxk⟩ := find_mem hf
    have hk : g.live k := by rw [← hxk]; exact h.liveN x hx
    have hkl : k < S.files.length := by rw [← hxk]; exact (hI.nice.good x hx).2
    have hF := h2.files k hk
    have hfo : S.ask.1.fileOf k = S.fileOf k := by unfold PFs.fileOf; rw [qf]
    rw [hfo] at hF
    have c0 := hF.box.cell 0
    have c1 := hF.box.cell 1
    have s1 := hF.box.soft 1
    simp at c0 c1
    have hbl : (S.fileOf k).b.length ≤ 1048576 := hI.lens k
    rw [show g.blk k = (g.fl k).blk from rfl]
    have hpk : (g.fl k).blk ≠ p := h.inner_ne (.inr (.inr (.inr ⟨k, hk, .inl rfl⟩)))
    have hrk : ∀ b, (g.fl k).row = some b → b ≠ (g.fl k).blk := fun b e => tag_ne (h.tagR hk e) (h.tagF hk) (by decide)
    go_wp2
    go_returns
    rw [hS]
    have hfo' := fun j => fileOf_set S.ask.1 k j ⟨(S.fileOf k).b, (S.fileOf k).b.length⟩ (by rw [qf]; exact hkl)
    rw [qf] at hfo'
    refine ⟨rfl, hI2.file (k := k) (x := ⟨(S.fileOf k).b, (S.fileOf k).b.length⟩) (by rw [qf]; exact hkl) rfl rfl rfl (by rw [qf]) rfl rfl ⟨rfl, rfl, rfl, rfl⟩ hbl (Nat.le_refl _), g.put k (g.fl k), ?_, ?_⟩
    · refine FsAt.file h2 hk rfl (fun b e => .inl e) ?_ (fun j hj => by rw [hfo', if_neg hj]) rfl rfl rfl ?_ ((Chg.refl _ _).set (fun _ => .inr (.inl rfl)) _ _)
      · rw [hfo', if_pos rfl]
        exact ⟨hF.box.set 1 _, hF.own.size, row_same hF.own.row (fun b e => Below.heap_setCell _ _ _ _ (hrk b (by rw [← FG.row_eq]; exact e)))⟩
      · have e : cellsOf ({ S.ask.1 with files := S.files.set k ⟨(S.fileOf k).b, (S.fileOf k).b.length⟩ } : PFs) g = cellsOf S.ask.1 g := by
          unfold cellsOf
          have : ({ S.ask.1 with files := S.files.set k ⟨(S.fileOf k).b, (S.fileOf k).b.length⟩ } : PFs).bulk S.ask.1.names = S.ask.1.bulk S.ask.1.names := by
            rw [bulk_eq, bulk_eq]
            refine bulkF_congr fun x _ => ?_
            simp only [hfo']
            split
            · rename_i e
              rw [e, hfo]
            · rfl
          rw [this]
        rw [e]
        exact Box.kept h2.fs (Below.heap_setCell _ _ _ _ hpk.symm)
    · exact Turn.file hk rfl (fun b e => .inl e) ((hc2.wide fun _ _ e => .inl e).set (fun _ => .inr (.inl rfl)) _ _)
end Go.Proofs.Ytkelahekfkhcfaa
