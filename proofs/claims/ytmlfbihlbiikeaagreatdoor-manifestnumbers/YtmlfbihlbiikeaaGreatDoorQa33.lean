/- The contracts of rename over whole file systems, Create, Rename, Remove. -/
import Derived.Test.YtmlfbihlbiikeaaGreatDoorQa32
namespace Go.Proofs.YtmlfbihlbiikeaaGreatDoor
open Go.RowKit Go.Maps
theorem rename_at {w0 w : World} {p : Nat} {S : PFs} {g : Gh} {u : Int} (h : FsAt w0 p S g) (hN : Nice S.files.length S.names) (h1 : S.names.length ≤ 1000000) (h2 : S.since.length ≤ 1000000) (hw : FsB w p { cellsOf S g with u := u }) (hc0 : Chg (fun k => k = p) w0 w) (c : PChange) (hok : OkC S.files.length S.names c) (hlive : c.kind = 1 → g.live c.file) (hu : (((S.change c).bulk (S.change c).names : Nat) : Int) = u) :
    Calls Tryz.prog 40 #[at_ p, .agg (cellsC1 g.blk c).toArray] w fun e w' => e = .returned (.tuple #[]) ∧ ∃ g', FsAt w' p (S.change c) g' ∧ Turn p g g' w0 w' := by
  have hk : ∀ k, Inner g k → w.heap[k]? = w0.heap[k]? := fun k hk => hc0.block k (h.foot_lt (.inr hk)) (h.inner_ne hk)
  have hsz := hc0.size
  refine (rename_any w p { cellsOf S g with u := u } hw g.blk S.names S.since c (h.nm.kept fun m e => hk m (.inl e)) hN hok h1 rfl h2 (row_same h.sn fun b e => hk b (.inr (.inr (.inl (by rw [← g.srow_eq]; exact e)))))).mono ?_
  rintro e w' ⟨rfl, m, gr, cap, hm, hn, hr, hg, hb, hc⟩
  have hsr : (Value.slice (cellsOf S g).sa (cellsOf S g).sl (cellsOf S g).sc).ownBlock = g.srow := g.srow_eq _ _
  have hm' : g.mn = some m ∨ (g.mn = none ∧ w0.heap.size ≤ m) := hm.imp id (fun h => ⟨h.1, Nat.le_trans hsz h.2⟩)
  have hg' : g.srow = some gr ∨ w0.heap.size ≤ gr := hg.imp (fun h => by rw [← hsr]; exact h) (fun h => Nat.le_trans hsz h)
  have hcc : Chg (fun i => i = p ∨ g.mn = some i ∨ g.srow = some i) w0 w' := Chg.andThen (hc0.wide fun _ _ e => .inl e) hc (fun i _ e => e.imp id (fun e => e.imp id (fun e => by rw [← hsr]; exact e)))
  refine ⟨rfl, _, h.changed hok hlive hm' hn hr rfl rfl rfl rfl ?_ hcc, Turn.changed hm' hg' hcc⟩
  have e : cellsOf (S.change c) { g with mn := some m, sa := some ⟨gr, 0, none⟩, sc := cap } = { cellsOf S g with u := u, mn := some m, sa := some ⟨gr, 0, none⟩, sl := S.since.length + 1, sc := cap } := by
    unfold cellsOf
    rw [hu]
    have : (S.change c).since.length = S.since.length + 1 := by simp [PFs.change]
    rw [this]
    rfl
  rw [e]
  exact hb
theorem Inv.change {S : PFs} (h : Inv S) {c : PChange} (hok : OkC S.files.length S.names c) (ha : S.lasts.length + S.since.length + 1 ≤ S.asked) (hfr : c.kind = 1 → ∀ x ∈ S.lasts.map (·.file) ++ news S.since, x ≠ c.file) : Inv (S.change c) :=
  ⟨h.asked, h.quota, h.fuse, h.fail, h.lasts, Chain.snoc h.chain hok, by simp [PFs.change]; omega, h.lens, h.last, by
    show (S.lasts.map (·.file) ++ news (S.since ++ [c])).Nodup
    rw [news_snoc]
    split
    · rename_i e
      rw [← List.append_assoc, List.nodup_append]
      exact ⟨h.fresh, by simp, fun x hx y hy => by rw [List.mem_singleton.1 hy]; exact hfr e x hx⟩
    · exact h.fresh⟩
theorem Chg.own (w : World) (p j : Nat) (v : Value) : Chg (fun k => k = p) w (w.setCell ⟨p, j, none⟩ v) := (Chg.refl (fun k => k = p) w).set (p := p) (fun _ => rfl) j v
theorem change_names (S : PFs) (c : PChange) : (S.change c).names = changedN S.names c := rfl
theorem change_files (S : PFs) (c : PChange) : (S.change c).files = S.files := rfl
theorem strOf_self (s : ByteArray) : strOf s.data.toList = s := by cases s; simp [strOf]
theorem Inv.room {S : PFs} (h : Inv S) (_ha : S.asked < 1000000) : S.ask.1.lasts.length + S.ask.1.since.length + 1 ≤ S.ask.1.asked := by
  obtain ⟨_, n, l, _, _, u⟩ := ask_same S
  have := h.count
  rw [n, l, u]
  omega
theorem Inv.fewS {S : PFs} (h : Inv S) : S.since.length ≤ 1000000 := by
  have := h.count
  have := h.asked
  omega
set_option maxRecDepth 100000 in
set_option maxHeartbeats 1000000 in
theorem remove_at {w : World} {p : Nat} {S : PFs} {g : Gh} (h : FsAt w p S g) (hI : Inv S) (ha : S.asked < 1000000) (name : ByteArray) : Calls Tryz.prog 157 #[at_ p, .string name] w fun e w' => e = .returned (.int .i64 ((S.remove name.data.toList).2 : Nat)) ∧ Inv (S.remove name.data.toList).1 ∧ ∃ g', FsAt w' p (S.remove name.data.toList).1 g' ∧ Turn p g g' w w' := by
  obtain ⟨q, ql, qs, qf, qq, qa⟩ := ask_same S
  go_enter Tryz.func157, Tryz.ntmps157
  go_wp2_with fail
  refine (beginOf_at h hI ha name).mono ?_
  rintro e w2 ⟨h2, hI2, hc2, (⟨er, hne, HE, rfl⟩ | ⟨h0, hf, rfl⟩ | ⟨k, h0, hf, rfl⟩)⟩
  · have hS : S.remove name.data.toList = S.ask := by
      rw [PFs.remove, if_pos (by have := HE.out; omega)]
    go_wp2
    go_returns
    rw [hS]
    exact ⟨ret1 (congrArg (Value.int .i64) HE.out), hI2, g, h2, Turn.same (hc2.wide fun _ _ e => .inl e)⟩
  · have hS : S.remove name.data.toList = (S.ask.1, 42) := by
      rw [PFs.remove, if_neg (by omega), hf]
    go_wp2
    go_returns
    rw [hS]
    exact ⟨rfl, hI2, g, h2, Turn.same (hc2.wide fun _ _ e => .inl e)⟩
  · have hS : S.remove name.data.toList = (S.ask.1.change ⟨3, name.data.toList, [], 0⟩, 0) := by
      rw [PFs.remove, if_neg (by omega), hf]
    obtain ⟨x, hx, _, hxk⟩ := find_mem hf
    have hk : g.live k := by rw [← hxk]; exact h.liveN x hx
    have hF := h2.files k hk
    have hfo : S.ask.1.fileOf k = S.fileOf k := by unfold PFs.fileOf; rw [qf]
    rw [hfo] at hF
    have hbk : S.ask.1.bulk S.ask.1.names = S.bulk S.names := by rw [q]; exact bulk_files qf _
    have c0 := hF.box.cell 0
    simp at c0
    have hbl : (S.fileOf k).b.length ≤ 1048576 := hI.lens k
    rw [show g.blk k = (g.fl k).blk from rfl]
    obtain ⟨q0, q1, _⟩ := h2.fs.cells
    have s1 := Box.soft h2.fs 1
    simp only [cellsOf] at q0 q1
    rw [hbk] at q1
    have hU := hI.bulk
    obtain ⟨U, HU⟩ : ∃ U, Hid (U = S.bulk S.names) := ⟨_, rfl⟩
    rw [← HU.out] at q1 hU
    obtain ⟨L, HL⟩ : ∃ L, Hid (L = (S.fileOf k).b.length) := ⟨_, rfl⟩
    rw [← HL.out] at c0 hbl
    have hok : OkC S.ask.1.files.length S.ask.1.names ⟨3, name.data.toList, [], 0⟩ := ⟨.inr (.inr rfl), fun e => by simp at e, fun e => by simp at e, fun _ => by rw [q, hf]; rfl⟩
    have hbu : (((S.ask.1.change ⟨3, name.data.toList, [], 0⟩).bulk (S.ask.1.change ⟨3, name.data.toList, [], 0⟩).names : Nat) : Int) = (U : Int) - (L : Int) := by
      have e1 : (S.ask.1.change ⟨3, name.data.toList, [], 0⟩).names = without S.names name.data.toList := by
        rw [change_names, q]
        rfl
      rw [e1]
      have e2 : (S.ask.1.change ⟨3, name.data.toList, [], 0⟩).bulk (without S.names name.data.toList) = S.bulk (without S.names name.data.toList) := bulk_files (by rw [change_files]; exact qf) _
      rw [e2]
      have := bulk_without (len := fun j => (S.fileOf j).b.length) hI.nice hf
      rw [← bulk_eq, ← bulk_eq, ← HU.out, ← HL.out] at this
      omega
    have hcall : ∀ W, FsB W p { cellsOf S.ask.1 g with u := (U : Int) - (L : Int) } → Chg (fun k => k = p) w2 W → Calls Tryz.prog 40 #[at_ p, .agg #[.string name, .string ByteArray.empty, .pointer none]] W fun e w' => e = .returned (.tuple #[]) ∧ ∃ g', FsAt w' p (S.ask.1.change ⟨3, name.data.toList, [], 0⟩) g' ∧ Turn p g g' w2 w' := fun W hW hC => by
      have := rename_at h2 hI2.nice hI2.few hI2.fewS hW hC ⟨3, name.data.toList, [], 0⟩ hok (fun e => by simp at e) hbu
      have e : cellsC1 g.blk ⟨3, name.data.toList, [], 0⟩ = [.string name, .string ByteArray.empty, .pointer none] := by
        unfold cellsC1
        rw [strOf_self]
        rfl
      rw [e] at this
      exact this
    go_wp2
    go_region
    go_wp2_with fail
    refine (hcall (w2.setCell ⟨p, 1, none⟩ (.int .i64 ((U : Int) - (L : Int)))).drew (Box.set h2.fs 1 _) (Chg.own _ _ _ _).drew).mono ?_
    rintro e w3 ⟨rfl, g', h3, ht⟩
    go_wp2
    go_returns
    rw [hS]
    exact ⟨rfl, hI2.change hok (hI.room ha) (fun e => by simp at e), g', h3, ⟨Chg.andThen (hc2.wide fun _ _ e => .inl e) ht.chg (fun _ _ e => e), fun k hk => (ht.foot k hk).imp id (fun h => Nat.le_trans hc2.size h)⟩⟩
set_option maxRecDepth 100000 in
set_option maxHeartbeats 1000000 in
theorem renames_at {w : World} {p : Nat} {S : PFs} {g : Gh} (h : FsAt w p S g) (hI : Inv S) (ha : S.asked < 1000000) (name to' : ByteArray) : Calls Tryz.prog 103 #[at_ p, .string name, .string to'] w fun e w' => e = .returned (.int .i64 ((S.rename name.data.toList to'.data.toList).2 : Nat)) ∧ Inv (S.rename name.data.toList to'.data.toList).1 ∧ ∃ g', FsAt w' p (S.rename name.data.toList to'.data.toList).1 g' ∧ Turn p g g' w w' := by
  obtain ⟨q, ql, qs, qf, qq, qa⟩ := ask_same S
  go_enter Tryz.func103, Tryz.ntmps103
  go_wp2_with fail
  refine (beginOf_at h hI ha name).mono ?_
  rintro e w2 ⟨h2, hI2, hc2, (⟨er, hne, HE, rfl⟩ | ⟨h0, hf, rfl⟩ | ⟨k, h0, hf, rfl⟩)⟩
  · have hS : S.rename name.data.toList to'.data.toList = S.ask := by
      rw [PFs.rename, if_pos (by have := HE.out; omega)]
    go_wp2
    go_returns
    rw [hS]
    exact ⟨ret1 (congrArg (Value.int .i64) HE.out), hI2, g, h2, Turn.same (hc2.wide fun _ _ e => .inl e)⟩
  · have hS : S.rename name.data.toList to'.data.toList = (S.ask.1, 42) := by
      rw [PFs.rename, if_neg (by omega), hf]
    go_wp2
    go_returns
    rw [hS]
    exact ⟨rfl, hI2, g, h2, Turn.same (hc2.wide fun _ _ e => .inl e)⟩
  · go_wp2_with fail
    refine (mayName_any _ to').mono ?_
    rintro e w3 ⟨rfl, rfl⟩
    cases hgd : goodN to'.data.toList with
    | false =>
      have hS : S.rename name.data.toList to'.data.toList = (S.ask.1, 40) := by
        rw [PFs.rename, if_neg (by omega), hf]
        show (if goodN to'.data.toList = false then _ else _) = _
        rw [if_pos hgd]
      go_wp2
      go_returns
      rw [hS]
      exact ⟨rfl, hI2, g, h2, Turn.same (hc2.wide fun _ _ e => .inl e)⟩
    | true =>
      have hS : S.rename name.data.toList to'.data.toList = (S.ask.1.change ⟨2, name.data.toList, to'.data.toList, k⟩, 0) := by
        rw [PFs.rename, if_neg (by omega), hf]
        show (if goodN to'.data.toList = false then _ else _) = _
        rw [if_neg (by rw [hgd]; simp)]
      obtain ⟨q0, q1, q2, q3, q4, q5, q6, q7, _⟩ := h2.fs.cells
      have s1 := Box.soft h2.fs 1
      simp only [cellsOf] at q0 q1 q7
      have hbk : S.ask.1.bulk S.ask.1.names = S.bulk S.names := by rw [q]; exact bulk_files qf _
      rw [hbk] at q1
      have hU := hI.bulk
      obtain ⟨U, HU⟩ : ∃ U, Hid (U = S.bulk S.names) := ⟨_, rfl⟩
      rw [← HU.out] at q1 hU
      have hlk := h2.nm.look hI2.short to'
      rw [q] at hlk
      have hok : OkC S.ask.1.files.length S.ask.1.names ⟨2, name.data.toList, to'.data.toList, k⟩ := ⟨.inr (.inl rfl), fun e => by simp at e, fun _ => ⟨by rw [q]; exact hf, hgd⟩, fun e => by simp at e⟩
      have hbw : ∀ l, (S.ask.1.change ⟨2, name.data.toList, to'.data.toList, k⟩).bulk l = bulkF (fun j => (S.fileOf j).b.length) l := fun l => by
        rw [bulk_files (S := S) (by rw [change_files]; exact qf), bulk_eq]
      have hbn : (S.ask.1.change ⟨2, name.data.toList, to'.data.toList, k⟩).names = withN (without S.names name.data.toList) ⟨to'.data.toList, k⟩ := by
        rw [change_names, q]
        rfl
      have hb1 := bulk_without (len := fun j => (S.fileOf j).b.length) hI.nice hf
      rw [← bulk_eq, ← HU.out] at hb1
      obtain ⟨T, hT⟩ : ∃ T, bulkF (fun j => (S.fileOf j).b.length) (without S.names name.data.toList) = T := ⟨_, rfl⟩
      rw [hT] at hb1
      have HT : Hid (bulkF (fun j => (S.fileOf j).b.length) (without S.names name.data.toList) = T) := hT
      clear hT
      have HB1 : Hid (U = (S.fileOf k).b.length + T) := hb1
      clear hb1
      have hcall : ∀ (u : Int) W, (((S.ask.1.change ⟨2, name.data.toList, to'.data.toList, k⟩).bulk (S.ask.1.change ⟨2, name.data.toList, to'.data.toList, k⟩).names : Nat) : Int) = u → FsB W p { cellsOf S.ask.1 g with u := u } → Chg (fun k => k = p) w3 W → Calls Tryz.prog 40 #[at_ p, .agg #[.string name, .string to', .pointer none]] W fun e w' => e = .returned (.tuple #[]) ∧ ∃ g', FsAt w' p (S.ask.1.change ⟨2, name.data.toList, to'.data.toList, k⟩) g' ∧ Turn p g g' w3 w' := fun u W hu hW hC => by
        have := rename_at h2 hI2.nice hI2.few hI2.fewS hW hC ⟨2, name.data.toList, to'.data.toList, k⟩ hok (fun e => by simp at e) hu
        have e : cellsC1 g.blk ⟨2, name.data.toList, to'.data.toList, k⟩ = [.string name, .string to', .pointer none] := by
          unfold cellsC1
          rw [strOf_self, strOf_self]
          rfl
        rw [e] at this
        exact this
      rw [hbw, hbn, bulk_with] at hcall
      have fin : ∀ (w4 : World) (g' : Gh), FsAt w4 p (S.ask.1.change ⟨2, name.data.toList, to'.data.toList, k⟩) g' → Turn p g g' w3 w4 → Ending.returned (.int .i64 0) = .returned (.int .i64 ((S.rename name.data.toList to'.data.toList).2 : Nat)) ∧ Inv (S.rename name.data.toList to'.data.toList).1 ∧ ∃ g', FsAt w4 p (S.rename name.data.toList to'.data.toList).1 g' ∧ Turn p g g' w w4 := fun w4 g' h4 ht => by
        rw [hS]
        exact ⟨rfl, hI2.change hok (hI.room ha) (fun e => by simp at e), g', h4, ⟨Chg.andThen (hc2.wide fun _ _ e => .inl e) ht.chg (fun _ _ e => e), fun k hk => (ht.foot k hk).imp id (fun h => Nat.le_trans hc2.size h)⟩⟩
      by_cases hsame : to'.data.toList = name.data.toList
      · -- its own name
        have hst : (to'.toList == name.toList) = true := by
          rw [ByteArray.toList_eq, ByteArray.toList_eq, hsame]
          simp
        rw [hsame, hf, ptrOf] at hlk
        have hab : without (without S.names name.data.toList) to'.data.toList = without S.names name.data.toList := by rw [hsame, without_twice]
        simp only [hab, HT.out] at hcall
        go_wp2_with fail
        refine (hcall (U : Int) w3 (by have := HB1.out; omega) ?_ (Chg.refl _ _)).mono ?_
        · have := h2.fs
          unfold FsB at this ⊢
          refine Box.eq this ?_
          unfold cellsOf
          rw [hbk, ← HU.out]
        · rintro e w4 ⟨rfl, g', h4, ht⟩
          go_wp2
          go_returns
          exact fin _ _ h4 ht
      · have hst : (to'.toList == name.toList) = false := by
          rw [ByteArray.toList_eq, ByteArray.toList_eq]
          simpa using hsame
        cases hf2 : findN S.names to'.data.toList with
        | none =>
          rw [hf2, ptrOf] at hlk
          have hab : without (without S.names name.data.toList) to'.data.toList = without S.names name.data.toList := without_absent (fun x hx => find_none hf2 x (mem_without.1 hx).1)
          simp only [hab, HT.out] at hcall
          go_wp2_with fail
          refine (hcall (U : Int) w3 (by have := HB1.out; omega) ?_ (Chg.refl _ _)).mono ?_
          · have := h2.fs
            unfold FsB at this ⊢
            refine Box.eq this ?_
            unfold cellsOf
            rw [hbk, ← HU.out]
          · rintro e w4 ⟨rfl, g', h4, ht⟩
            go_wp2
            go_returns
            exact fin _ _ h4 ht
        | some k2 =>
          rw [hf2, ptrOf] at hlk
          obtain ⟨y, hy, hyn, hyk⟩ := find_mem hf2
          have hk2 : g.live k2 := by rw [← hyk]; exact h.liveN y hy
          have hF := h2.files k2 hk2
          have hfo : S.ask.1.fileOf k2 = S.fileOf k2 := by unfold PFs.fileOf; rw [qf]
          rw [hfo] at hF
          have c0 := hF.box.cell 0
          simp at c0
          have hbl : (S.fileOf k2).b.length ≤ 1048576 := hI.lens k2
          rw [show g.blk k2 = (g.fl k2).blk from rfl] at hlk
          have hf3 : findN (without S.names name.data.toList) to'.data.toList = some k2 := by
            rw [← hyn, ← hyk]
            exact find_of (hI.nice.without _).names (mem_without.2 ⟨hy, by rw [hyn]; exact hsame⟩)
          have hb2 := bulk_without (len := fun j => (S.fileOf j).b.length) (hI.nice.without name.data.toList) hf3
          obtain ⟨L, HL⟩ : ∃ L, Hid (L = (S.fileOf k2).b.length) := ⟨_, rfl⟩
          rw [← HL.out] at c0 hbl hb2
          have hU2 : L ≤ U := by have := HB1.out; have := HT.out; omega
          have HB2 : Hid (bulkF (fun j => (S.fileOf j).b.length) (without S.names name.data.toList) = L + bulkF (fun j => (S.fileOf j).b.length) (without (without S.names name.data.toList) to'.data.toList)) := hb2
          clear hb2
          go_wp2
          go_region
          go_wp2_with fail
          refine (hcall ((U : Int) - (L : Int)) (w3.setCell ⟨p, 1, none⟩ (.int .i64 ((U : Int) - (L : Int)))).drew (by show (((S.fileOf k).b.length + bulkF (fun j => (S.fileOf j).b.length) (without (without S.names name.data.toList) to'.data.toList) : Nat) : Int) = _; have := HB1.out; have := HB2.out; have := HT.out; omega) (Box.set h2.fs 1 _) (Chg.own _ _ _ _).drew).mono ?_
          rintro e w4 ⟨rfl, g', h4, ht⟩
          go_wp2
          go_returns
          exact fin _ _ h4 ht
end Go.Proofs.YtmlfbihlbiikeaaGreatDoor
namespace Go.Proofs.YtmlfbihlbiikeaaGreatDoor
open Go.RowKit Go.Maps
def Gh.more (g : Gh) (k b : Nat) : Gh := { g with fl := fun j => if j = k then ⟨b, none, 0⟩ else g.fl j, live := fun j => g.live j ∨ j = k }
theorem Gh.more_blk (g : Gh) (k b j : Nat) (h : j ≠ k) : (g.more k b).blk j = g.blk j := by simp [Gh.more, Gh.blk, h]
theorem fileOf_more (S : PFs) (j : Nat) : ({ S with files := S.files ++ [file0] } : PFs).fileOf j = S.fileOf j := by
  unfold PFs.fileOf
  show (S.files ++ [file0]).getD j file0 = _
  rw [List.getD_eq_getElem?_getD, List.getD_eq_getElem?_getD, List.getElem?_append]
  split
  · rfl
  · rename_i h
    rw [List.getElem?_eq_none (by omega : S.files.length ≤ j)]
    by_cases e : j - S.files.length = 0
    · rw [e]; rfl
    · rw [List.getElem?_eq_none (by simp; omega)]
theorem FsAt.more {w : World} {p : Nat} {S S' : PFs} {g : Gh} (h : FsAt w p S g) (hI : Inv S) (e1 : S'.names = S.names) (e2 : S'.lasts = S.lasts) (e3 : S'.since = S.since) (e4 : S'.files = S.files ++ [file0]) (hfs : ∀ g', g'.mn = g.mn → g'.ml = g.ml → g'.sa = g.sa → g'.sc = g.sc → cellsOf S' g' = cellsOf S g) :
    FsAt (w.alloc (.cells #[.slice none 0 0, .int .i64 0] 99)) p S' (g.more S.files.length w.heap.size) := by
  have hold : ∀ k, k < w.heap.size → (w.alloc (.cells #[.slice none 0 0, .int .i64 0] 99)).heap[k]? = w.heap[k]? := fun k hk => Below.heap_alloc _ _ _ hk
  have hfo : ∀ j, S'.fileOf j = S.fileOf j := fun j => by
    rw [← fileOf_more S j]
    unfold PFs.fileOf
    rw [e4]
  have hbn : ∀ l : List PName, (∀ x ∈ l, x.file < S.files.length) → mapOf (g.more S.files.length w.heap.size).blk l = mapOf g.blk l := fun l hl => mapOf_congr fun x hx => g.more_blk _ _ _ (by have := hl x hx; omega)
  have hnm : ∀ (mo : Option Nat) (l : List PName), (∀ x ∈ l, x.file < S.files.length) → NmAt w mo g.blk l → (∀ m, mo = some m → m < w.heap.size) → NmAt (w.alloc (.cells #[.slice none 0 0, .int .i64 0] 99)) mo (g.more S.files.length w.heap.size).blk l := fun mo l hl hn hm => by
    have := hn.kept fun m e => hold m (hm m e)
    unfold NmAt at this ⊢
    rw [hbn l hl]
    exact this
  refine ⟨?_, ?_, ?_, h.apart, ?_, ?_, ?_, ?_, ?_, ?_⟩
  · rw [hfs (g.more S.files.length w.heap.size) rfl rfl rfl rfl]
    exact Box.alloc h.fs _
  · rw [e1]
    exact hnm _ _ (fun x hx => (hI.nice.good x hx).2) h.nm (fun m e => tag_lt (h.tagN e))
  · rw [e2]
    exact hnm _ _ (fun x hx => (hI.lasts.good x hx).2) h.lm (fun m e => tag_lt (h.tagL e))
  · rw [e3]
    have : cellsC (g.more S.files.length w.heap.size).blk S.since = cellsC g.blk S.since := cellsC_congr fun c hc hk => g.more_blk _ _ _ (by
      have := Chain.files hI.chain c hc hk
      omega)
    rw [this]
    exact row_same h.sn fun b e => hold b (tag_lt (row_tag h.sn e))
  · intro k hk
    rw [hfo]
    by_cases e : k = S.files.length
    · subst e
      have e5 : (g.more S.files.length w.heap.size).fl S.files.length = ⟨w.heap.size, none, 0⟩ := by simp [Gh.more]
      have e6 : S.fileOf S.files.length = file0 := by unfold PFs.fileOf; simp
      rw [e5, e6]
      exact ⟨Box.new w _ _, rfl, World.ownsRow_nil _ _ _ 1⟩
    · have e5 : (g.more S.files.length w.heap.size).fl k = g.fl k := by simp [Gh.more, e]
      have hk' : g.live k := hk.resolve_right e
      rw [e5]
      exact (h.files k hk').kept (hold _ (tag_lt (h.tagF hk'))) fun b e => hold b (tag_lt (h.tagR hk' e))
  · intro i j hi hj hij
    by_cases ei : i = S.files.length
    · subst ei
      have e5 : (g.more S.files.length w.heap.size).fl S.files.length = ⟨w.heap.size, none, 0⟩ := by simp [Gh.more]
      have e6 : (g.more S.files.length w.heap.size).fl j = g.fl j := by simp [Gh.more, Ne.symm hij]
      have hj' : g.live j := hj.resolve_right (Ne.symm hij)
      rw [e5, e6]
      exact ⟨fun e => absurd (tag_lt (h.tagF hj')) (by rw [← e]; simp), fun b e => by cases e⟩
    · have e5 : (g.more S.files.length w.heap.size).fl i = g.fl i := by simp [Gh.more, ei]
      have hi' : g.live i := hi.resolve_right ei
      rw [e5]
      by_cases ej : j = S.files.length
      · subst ej
        have e6 : (g.more S.files.length w.heap.size).fl S.files.length = ⟨w.heap.size, none, 0⟩ := by simp [Gh.more]
        rw [e6]
        exact ⟨fun e => absurd (tag_lt (h.tagF hi')) (by rw [e]; simp), fun b _ e => by cases e⟩
      · have e6 : (g.more S.files.length w.heap.size).fl j = g.fl j := by simp [Gh.more, ej]
        rw [e6]
        exact h.inj i j hi' (hj.resolve_right ej) hij
  · rw [e1]
    exact fun x hx => .inl (h.liveN x hx)
  · rw [e2]
    exact fun x hx => .inl (h.liveL x hx)
  · rw [e3]
    exact fun c hc hk => .inl (h.liveS c hc hk)
theorem Inner.more {w : World} {p : Nat} {S : PFs} {g : Gh} (_h : FsAt w p S g) {K k : Nat} (hk : Inner (g.more K w.heap.size) k) : Inner g k ∨ w.heap.size ≤ k := by
  rcases hk with e | e | e | ⟨j, hj, e⟩
  · exact .inl (.inl e)
  · exact .inl (.inr (.inl e))
  · exact .inl (.inr (.inr (.inl e)))
  · by_cases ej : j = K
    · subst ej
      have e5 : (g.more j w.heap.size).fl j = ⟨w.heap.size, none, 0⟩ := by simp [Gh.more]
      rw [e5] at e
      rcases e with e | e
      · exact .inr (by rw [e]; exact Nat.le_refl _)
      · cases e
    · have e5 : (g.more K w.heap.size).fl j = g.fl j := by simp [Gh.more, ej]
      rw [e5] at e
      exact .inl (.inr (.inr (.inr ⟨j, hj.resolve_right ej, e⟩)))
set_option maxRecDepth 100000 in
set_option maxHeartbeats 1000000 in
theorem create_at {w : World} {p : Nat} {S : PFs} {g : Gh} (h : FsAt w p S g) (hI : Inv S) (ha : S.asked < 1000000) (name : ByteArray) : Calls Tryz.prog 16 #[at_ p, .string name] w fun e w' => e = .returned (.int .i64 ((S.create name.data.toList).2 : Nat)) ∧ Inv (S.create name.data.toList).1 ∧ ∃ g', FsAt w' p (S.create name.data.toList).1 g' ∧ Turn p g g' w w' := by
  obtain ⟨q, ql, qs, qf, qq, qa⟩ := ask_same S
  go_enter Tryz.func16, Tryz.ntmps16
  go_wp2_with fail
  refine (begin_at h hI ha).mono ?_
  rintro e w2 ⟨rfl, h2, hI2, hc2⟩
  by_cases h0 : S.ask.2 = 0
  case neg =>
    have hS : S.create name.data.toList = S.ask := by rw [PFs.create, if_pos h0]
    obtain ⟨er, her⟩ : ∃ er : Int, er = ((S.ask.2 : Nat) : Int) := ⟨_, rfl⟩
    have hne : er ≠ 0 := by omega
    have HE : Hid (er = ((S.ask.2 : Nat) : Int)) := her
    rw [← her]
    clear her
    go_wp2
    go_returns
    rw [hS]
    exact ⟨ret1 (congrArg (Value.int .i64) HE.out), hI2, g, h2, Turn.same (hc2.wide fun _ _ e => .inl e)⟩
  case pos =>
    rw [h0]
    go_wp2_with fail
    refine (mayName_any _ name).mono ?_
    rintro e w3 ⟨rfl, rfl⟩
    cases hgd : goodN name.data.toList with
    | false =>
      have hS : S.create name.data.toList = (S.ask.1, 40) := by
        rw [PFs.create, if_neg (by omega), if_pos hgd]
      go_wp2
      go_returns
      rw [hS]
      exact ⟨rfl, hI2, g, h2, Turn.same (hc2.wide fun _ _ e => .inl e)⟩
    | true =>
      obtain ⟨q0, q1, q2, q3, q4, q5, q6, q7, _⟩ := h2.fs.cells
      simp only [cellsOf] at q7
      have hlk := h2.nm.look hI2.short name
      rw [q] at hlk
      cases hf : findN S.names name.data.toList with
      | some k =>
        rw [hf, ptrOf] at hlk
        have hS : S.create name.data.toList = (S.ask.1, 41) := by
          rw [PFs.create, if_neg (by omega), if_neg (by rw [hgd]; simp), if_pos (by rw [hf]; rfl)]
        go_wp2
        go_returns
        rw [hS]
        exact ⟨rfl, hI2, g, h2, Turn.same (hc2.wide fun _ _ e => .inl e)⟩
      | none =>
        rw [hf, ptrOf] at hlk
        obtain ⟨S0, hS0⟩ : ∃ S0 : PFs, S0 = { S.ask.1 with files := S.files ++ [file0] } := ⟨_, rfl⟩
        have n1 : S0.names = S.ask.1.names := by rw [hS0]
        have n2 : S0.lasts = S.ask.1.lasts := by rw [hS0]
        have n3 : S0.since = S.ask.1.since := by rw [hS0]
        have n4 : S0.files = S.ask.1.files ++ [file0] := by rw [hS0, qf]
        have n6 : S0.asked = S.ask.1.asked := by rw [hS0]
        have n5 : S0.files.length = S.files.length + 1 := by rw [n4, qf]; simp
        have hS : S.create name.data.toList = (S0.change ⟨1, name.data.toList, [], S.files.length⟩, 0) := by
          rw [PFs.create, if_neg (by omega), if_neg (by rw [hgd]; simp), if_neg (by rw [hf]; simp), hS0]
        have hfo : ∀ j, S0.fileOf j = S.ask.1.fileOf j := fun j => by
          rw [← fileOf_more S.ask.1 j]
          unfold PFs.fileOf
          rw [n4]
        have hbu : ∀ l, S0.bulk l = S.ask.1.bulk l := fun l => by rw [bulk_eq, bulk_eq]; exact bulkF_congr fun x _ => by rw [hfo]
        have hcl : ∀ g', g'.mn = g.mn → g'.ml = g.ml → g'.sa = g.sa → g'.sc = g.sc → cellsOf S0 g' = cellsOf S.ask.1 g := fun g' a b c d => by
          unfold cellsOf
          rw [a, b, c, d, hbu, n1, n3]
          rw [hS0]
        have hA := h2.more (S' := S0) hI2 n1 n2 n3 n4 hcl
        rw [qf] at hA
        have hI0 : Inv S0 := by
          have hK : S.ask.1.files.length ≤ S0.files.length := by rw [n5, qf]; omega
          refine ⟨by rw [hS0]; exact hI2.asked, by rw [hS0]; exact hI2.quota, by rw [hS0]; exact hI2.fuse, by rw [hS0]; exact hI2.fail, by rw [n2]; exact hI2.lasts.mono hK, by rw [n1, n2, n3]; exact Chain.mono hK hI2.chain, by rw [n2, n3, hS0]; exact hI2.count, fun k => by rw [hfo]; exact hI2.lens k, fun k => by rw [hfo]; exact hI2.last k, by rw [n2, n3]; exact hI2.fresh⟩
        have hok : OkC S0.files.length S0.names ⟨1, name.data.toList, [], S.files.length⟩ := ⟨.inl rfl, fun _ => ⟨hgd, by rw [n1, q]; exact hf, by rw [n5]; exact Nat.lt_succ_self _, fun x hx => by
          rw [n1, q] at hx
          have := (hI.nice.good x hx).2
          show x.file ≠ S.files.length
          omega⟩, fun e => by simp at e, fun e => by simp at e⟩
        have hbn : (((S0.change ⟨1, name.data.toList, [], S.files.length⟩).bulk (S0.change ⟨1, name.data.toList, [], S.files.length⟩).names : Nat) : Int) = (cellsOf S0 (g.more S.files.length w3.heap.size)).u := by
          show _ = ((S0.bulk S0.names : Nat) : Int)
          rw [bulk_files (change_files _ _), change_names]
          have e : changedN S0.names ⟨1, name.data.toList, [], S.files.length⟩ = withN S0.names ⟨name.data.toList, S.files.length⟩ := rfl
          rw [e, bulk_eq, bulk_eq, bulk_with]
          have e2 : without S0.names name.data.toList = S0.names := without_absent (find_none (by rw [n1, q]; exact hf))
          rw [e2]
          have e3 : (S0.fileOf S.files.length).b.length = 0 := by
            rw [hfo]
            unfold PFs.fileOf
            rw [qf]
            simp [file0]
          rw [e3, Nat.zero_add]
        have hcall : Calls Tryz.prog 40 #[at_ p, .agg #[.string ByteArray.empty, .string name, at_ w3.heap.size]] (w3.alloc (.cells #[.slice none 0 0, .int .i64 0] 99)) fun e w' => e = .returned (.tuple #[]) ∧ ∃ g', FsAt w' p (S0.change ⟨1, name.data.toList, [], S.files.length⟩) g' ∧ Turn p (g.more S.files.length w3.heap.size) g' (w3.alloc (.cells #[.slice none 0 0, .int .i64 0] 99)) w' := by
          have := rename_at hA hI0.nice hI0.few hI0.fewS hA.fs (Chg.refl _ _) ⟨1, name.data.toList, [], S.files.length⟩ hok (fun _ => .inr rfl) hbn
          have e : cellsC1 (g.more S.files.length w3.heap.size).blk ⟨1, name.data.toList, [], S.files.length⟩ = [.string ByteArray.empty, .string name, at_ w3.heap.size] := by
            unfold cellsC1
            rw [strOf_self]
            simp [Gh.more, Gh.blk]
          rw [e] at this
          exact this
        clear hS0
        go_wp2_with fail
        refine hcall.mono ?_
        rintro e w4 ⟨rfl, g', h4, ht⟩
        go_wp2
        go_returns
        rw [hS]
        refine ⟨rfl, hI0.change hok (by have := hI.room ha; rw [n2, n3, n6]; exact this) (fun _ x hx => by
          rw [n2, n3, ql, qs] at hx
          have hlt : x < S.files.length := by
            rcases List.mem_append.1 hx with hx | hx
            · obtain ⟨y, hy, rfl⟩ := List.mem_map.1 hx
              exact (hI.lasts.good y hy).2
            · obtain ⟨c, hc, h1, rfl⟩ := mem_news.1 hx
              exact Chain.files hI.chain c hc h1
          show x ≠ S.files.length
          omega), g', h4, ?_, ?_⟩
        · have hsz := hc2.size
          refine Chg.andThen (hc2.wide fun _ _ e => .inl e) (Chg.andThen ((Chg.refl (fun k => Foot p g k ∨ w3.heap.size ≤ k) w3).alloc _) ht.chg ?_) (fun k hk e => e.elim id (fun e => by omega))
          rintro k hk (e | e)
          · exact .inl (.inl e)
          · exact (Inner.more h2 e).imp .inr id
        · intro k hk
          have hsz := hc2.size
          rcases ht.foot k hk with e | e
          · exact (Inner.more h2 e).imp id (fun e => Nat.le_trans hsz e)
          · right
            simp at e
            omega
end Go.Proofs.YtmlfbihlbiikeaaGreatDoor
