/- The contract of the document's own changed. -/
import Derived.Test.YtkelahekfkhcfaaPaNames
import Derived.Handy
import Derived.Test.YtkelahekfkhcfaaPaFew
import Derived.Deep.AppendLies
namespace Go.Proofs.Ytkelahekfkhcfaa
open Go.RowKit
theorem with_bound (l : List PName) (n : PName) (len : Nat) (h : l.length = len) : (withN l n).length ≤ len + 1 := by
  have := with_le l n
  omega
set_option maxRecDepth 100000 in
set_option maxHeartbeats 1000000 in
theorem rchanged_any (a : Option Addr) (len cap : Nat) (l : List PName) (c : PChange) (w : World) (h : NsAt w a len cap l) (hbig : len ≤ 4000000) :
    Calls Try.prog 61 #[.slice a len cap, .agg (cellsG1 c).toArray] w fun e w' => ∃ a' c', e = .returned (.slice a' (changedN l c).length c') ∧ OwnN w' w.heap.size a' (changedN l c).length c' (changedN l c) ∧ Below w.heap.size w w' := by
  obtain ⟨kd, nm, tn, fl⟩ := c
  show Calls Try.prog 61 #[.slice a len cap, .agg #[.int .i64 ((kd : Nat) : Int), .string (strOf nm), .string (strOf tn), .int .i64 ((fl : Nat) : Int)]] w _
  have H1 : Hid (∀ o, NsAt (w.alloc o) a len cap l) := fun o => h.below (Nat.le_refl _) ((Below.refl _ _).alloc (Nat.le_refl _) _)
  have hlen := h.size
  clear h
  by_cases h1 : kd = 1
  · subst h1
    have hch : changedN l ⟨1, nm, tn, fl⟩ = withN l ⟨nm, fl⟩ := rfl
    rw [hch]
    clear hlen
    go_enter Try.func61, Try.ntmps61
    go_wp2_with fail
    refine (rwith_any a len cap l ⟨nm, fl⟩ _ (H1.out _) (by omega)).mono ?_
    rintro e w2 ⟨a2, c2, rfl, ho, hb⟩
    have HO : Hid (OwnN w2 w.heap.size a2 (withN l ⟨nm, fl⟩).length c2 (withN l ⟨nm, fl⟩)) := ho.mono (by simp)
    have HB : Hid (Below w.heap.size w w2) := ((Below.refl _ _).alloc (Nat.le_refl _) _).trans (hb.mono (by simp))
    clear ho hb
    go_wp2
    go_returns
    exact ⟨a2, c2, rfl, HO.out, HB.out⟩
  · by_cases h2 : kd = 2
    · subst h2
      have hch : changedN l ⟨2, nm, tn, fl⟩ = withN (without l nm) ⟨tn, fl⟩ := rfl
      rw [hch]
      have hml : (without l nm).length ≤ len := by rw [← hlen]; exact without_len l nm
      have HW : Hid (∀ o, Calls Try.prog 68 #[.slice a len cap, .string (strOf nm)] (w.alloc o).drew fun e w' => ∃ a' c', e = .returned (.slice a' (without l nm).length c') ∧ OwnN w' (w.alloc o).drew.heap.size a' (without l nm).length c' (without l nm) ∧ Below (w.alloc o).drew.heap.size (w.alloc o).drew w') := fun o => rwithout_any a len cap l nm _ ((H1.out o).below (Nat.le_refl _) (Below.refl _ _).drew) (by omega)
      obtain ⟨M, HM⟩ : ∃ M, Hid (M = without l nm) := ⟨_, rfl⟩
      rw [← HM.out] at hml HW ⊢
      obtain ⟨m, HMl⟩ : ∃ m, Hid (m = M.length) := ⟨_, rfl⟩
      rw [← HMl.out] at hml HW
      clear hlen hch
      go_enter Try.func61, Try.ntmps61
      go_wp2
      go_region_with (first
        | (go_at_call 68
           refine (HW.out _).mono ?_
           rintro e w2 ⟨a2, c2, rfl, ho2, hb2⟩
           have HO2 : Hid (NsAt w2 a2 m c2 M) := ho2.ns
           have HB2 : Hid (Below w.heap.size w w2) := ((Below.refl _ _).alloc (Nat.le_refl _) _).drew.trans (hb2.mono (by simp))
           have d2 : w2.cell? ⟨w.heap.size, 2, none⟩ = some (.string (strOf tn)) := by rw [hb2.cell (by simp)]; simp
           have d3 : w2.cell? ⟨w.heap.size, 3, none⟩ = some (.int .i64 ((fl : Nat) : Int)) := by rw [hb2.cell (by simp)]; simp
           clear ho2 hb2)
        | (go_at_call 67
           refine (rwith_any a2 m c2 M ⟨tn, fl⟩ _ HO2.out (by omega)).mono ?_
           rintro e w3 ⟨a3, c3, rfl, ho3, hb3⟩
           have HO3 : Hid (OwnN w3 w.heap.size a3 (withN M ⟨tn, fl⟩).length c3 (withN M ⟨tn, fl⟩)) := ho3.mono HB2.out.size
           have HB3 : Hid (Below w.heap.size w w3) := HB2.out.trans (hb3.mono HB2.out.size)
           clear ho3 hb3))
      all_goals
        go_wp2
        go_returns
        exact ⟨a3, c3, rfl, HO3.out, HB3.out⟩
    · have hch : changedN l ⟨kd, nm, tn, fl⟩ = without l nm := by simp [changedN, h1, h2]
      rw [hch]
      have g1 : ((kd : Int) == 1) = false := by simpa using (by omega : (kd : Int) ≠ 1)
      have g2 : ((kd : Int) == 2) = false := by simpa using (by omega : (kd : Int) ≠ 2)
      clear hlen
      go_enter Try.func61, Try.ntmps61
      go_wp2_with fail
      refine (rwithout_any a len cap l nm _ (H1.out _) (by omega)).mono ?_
      rintro e w2 ⟨a2, c2, rfl, ho, hb⟩
      have HO : Hid (OwnN w2 w.heap.size a2 (without l nm).length c2 (without l nm)) := ho.mono (by simp)
      have HB : Hid (Below w.heap.size w w2) := ((Below.refl _ _).alloc (Nat.le_refl _) _).trans (hb.mono (by simp))
      clear ho hb
      go_wp2
      go_returns
      exact ⟨a2, c2, rfl, HO.out, HB.out⟩
end Go.Proofs.Ytkelahekfkhcfaa
/- The contract of the document's own change. -/
namespace Go.Proofs.Ytkelahekfkhcfaa
open Go.RowKit
theorem infoChg : (Try.prog.info? 90).map (fun i => (i.zero, i.size, i.bytes)) = some (some (.agg #[.int .i64 0, .string ByteArray.empty, .string ByteArray.empty, .int .i64 0]), 4, 48) := by kernel_rfl
set_option maxRecDepth 100000 in
set_option maxHeartbeats 2000000 in
theorem rchange_any (w : World) (p : Nat) (c : RC) (hB : RB w p c) (l : List PName) (since : List PChange) (ch : PChange) (hnm : OwnN w 0 c.na c.nl c.nc l) (hlen : c.nl ≤ 4000000) (hsl : c.sl = since.length) (hs : since.length ≤ 1000000) (hrow : w.ownsRow 0 90 4 (.slice c.sa c.sl c.sc) c.sl (cellsG since)) :
    Calls Try.prog 59 #[at_ p, .agg (cellsG1 ch).toArray] w fun e w' => e = .returned (.tuple #[]) ∧ ∃ a' c' gr cap, OwnN w' 0 a' (changedN l ch).length c' (changedN l ch) ∧ (∀ b, blkOf a' = some b → w.heap.size ≤ b) ∧ w'.ownsRow 0 90 4 (.slice (some ⟨gr, 0, none⟩) (c.sl + 1) cap) (c.sl + 1) (cellsG (since ++ [ch])) ∧ (blkOf c.sa = some gr ∨ w.heap.size ≤ gr) ∧ RB w' p { c with na := a', nl := (changedN l ch).length, nc := c', sa := some ⟨gr, 0, none⟩, sl := c.sl + 1, sc := cap } ∧ Chg (fun i => i = p ∨ blkOf c.sa = some i) w w' := by
  obtain ⟨kd, s, u, fl, ev⟩ : ∃ kd s u fl, cellsG1 ch = [.int .i64 kd, .string s, .string u, .int .i64 fl] := ⟨_, _, _, _, rfl⟩
  have hsmall : c.sl ≤ 1000000 := by omega
  have HS : Hid (c.sl = since.length) := hsl
  clear hsl
  obtain ⟨i0, hi, hz0, hz1, hz2⟩ := info_parts infoChg
  have hlt := Box.lt hB
  have hdo : ∀ o, Calls Try.prog 61 #[.slice c.na c.nl c.nc, .agg #[.int .i64 kd, .string s, .string u, .int .i64 fl]] (w.alloc o).drew fun e w' => ∃ a' c', e = .returned (.slice a' (changedN l ch).length c') ∧ OwnN w' (w.alloc o).drew.heap.size a' (changedN l ch).length c' (changedN l ch) ∧ Below (w.alloc o).drew.heap.size (w.alloc o).drew w' := by
    intro o
    have := rchanged_any c.na c.nl c.nc l ch (w.alloc o).drew ((hnm.ns.below (Nat.le_refl _) ((Below.refl _ _).alloc (Nat.le_refl _) o)).below (Nat.le_refl _) (Below.refl _ _).drew) hlen
    rw [ev] at this
    exact this
  obtain ⟨N, HN⟩ : ∃ N, Hid (N = changedN l ch) := ⟨_, rfl⟩
  rw [← HN.out] at hdo ⊢
  obtain ⟨n, HNl⟩ : ∃ n, Hid (n = N.length) := ⟨_, rfl⟩
  rw [← HNl.out] at hdo ⊢
  obtain ⟨q0, q1, q2, q3, q4, q5, q6, q7, q8, q9⟩ := hB.cells
  clear q0 q2 q4 q5 q6 q7 q8 q9
  rw [ev]
  go_enter Try.func59, Try.ntmps59
  go_wp2_with fail
  go_region_with (go_at_call 61; refine (hdo _).mono ?_; rintro e w2 ⟨a2, c2, rfl, ho2, hb2⟩; have hB2 : RB w2 p c := Box.kept hB ((hb2.block p (by simp; omega)).trans (Below.heap_alloc w _ p hlt)); have k1 := hB2.cell 1; have f1 := hB2.soft 1; simp [RC.arr] at k1)
  all_goals
    have hbW := Box.set hB2 1 (.slice a2 n c2)
    have hcW : Chg (fun i => i = p) w (w2.setCell ⟨p, 1, none⟩ (.slice a2 n c2)) := ((Chg.below (R := fun i => i = p) (((Below.refl w.heap.size w).alloc (Nat.le_refl _) _).drew.trans (hb2.mono (by simp)))).set (p := p) (fun _ => rfl) 1 _)
    have hxW : Box (w2.setCell ⟨p, 1, none⟩ (.slice a2 n c2)) w.heap.size 90 #[.int .i64 kd, .string s, .string u, .int .i64 fl] := (Box.new w _ _).kept ((Below.heap_setCell _ _ _ _ (by show w.heap.size ≠ p; omega)).trans (hb2.block w.heap.size (by simp)))
    have hnW : OwnN (w2.setCell ⟨p, 1, none⟩ (.slice a2 n c2)) w.heap.size a2 n c2 N := ⟨ho2.size, ownsRow_setCell_other (ho2.mono (B' := w.heap.size) (by simp)).row (fun e => by
      have := (ho2.row.lt p e).1
      simp at this
      omega) _⟩
    generalize w2.setCell ⟨p, 1, none⟩ (.slice a2 n c2) = W at hbW hcW hxW hnW ⊢
    have hbW' : RB W p { c with na := a2, nl := n, nc := c2 } := hbW
    clear hbW ho2 hB2 hb2 k1 f1
    have hszW := hcW.size
    have hrW : W.ownsRow 0 90 4 (.slice c.sa c.sl c.sc) c.sl (cellsG since) := row_same hrow (fun b e => hcW.block b (tag_lt (row_tag hrow e)) (fun e' => tag_ne (Box.tag hB) (row_tag hrow e) (by decide) e'.symm))
    have d0 := hxW.cell 0
    have d1 := hxW.cell 1
    have d2 := hxW.cell 2
    have d3 := hxW.cell 3
    simp at d0 d1 d2 d3
    have k3 := hbW'.cell 3
    have f3 := hbW'.soft 3
    simp [RC.arr] at k3
    have hpn : ∀ b, (Value.slice c.sa c.sl c.sc).ownBlock = some b → p ≠ b := fun b e => tag_ne (Box.tag hB) (row_tag hrow e) (by decide)
    have hpW : p < W.heap.size := Box.lt hbW'
    have HN1 : Hid (OwnN W w.heap.size a2 n c2 N) := hnW
    have HBW : Hid (RB W p { c with na := a2, nl := n, nc := c2 }) := hbW'
    have HCW : Hid (Chg (fun i => i = p) w W) := hcW
    have hone : ∀ y ∈ [Value.int .i64 kd, .string s, .string u, .int .i64 fl], y.oneCell' = true := by
      intro y hy
      simp at hy
      rcases hy with rfl | rfl | rfl | rfl <;> rfl
    have hrA : (W.drew.alloc (.cells #[.int .i64 kd, .string s, .string u, .int .i64 fl] 90)).ownsRow 0 90 4 (.slice c.sa c.sl c.sc) c.sl (cellsG since) := row_same hrW (fun b e => Below.heap_alloc W.drew _ b (tag_lt (row_tag hrW e)))
    have hnews := World.news_of_block (w := W.drew.alloc (.cells #[.int .i64 kd, .string s, .string u, .int .i64 fl] 90)) (heap_alloc_new W.drew _)
    have hbA : Box (W.drew.alloc (.cells #[.int .i64 kd, .string s, .string u, .int .i64 fl] 90)) p 69 ({ c with na := a2, nl := n, nc := c2 } : RC).arr := Box.alloc (w := W.drew) hbW' _
    clear hnW hcW hbW' hxW hdo q1 q3
    go_wp2_with fail
    go_region_law (refine step_append_lies _ rfl (.tmp 17) (.tmp 19) 67 rfl 0 90 i0 _ 4 48 Try.underlying67 hi hz0 hz1 hz2 rfl (by decide) (.slice c.sa c.sl c.sc) c.sl (cellsG since) (by simp [Act.eval]) hrA ⟨W.heap.size, 0, none⟩ 1 1 [.int .i64 kd, .string s, .string u, .int .i64 fl] (by simp [Act.eval]) rfl hnews hone (by omega) (by unfold maxLen; omega) (by omega) (Nat.zero_le _) (W.heap.size + 1) (by simp) ?_; intro gr cap w3 hr3 hg3 hl3 hg3lt; have hb4 := hbA.kept (hg3.block p (by simp; omega) (fun e => hpn p e.symm rfl)); have q94 := hb4.cell 3; have f94 := hb4.soft 3; simp [RC.arr] at q94)
  all_goals
    have hgp : gr ≠ p := by
      rcases hl3 with e | e
      · exact (hpn gr e).symm
      · omega
    have HR3 := hr3
    have hsz3 := hg3.size
    simp at hsz3
    have hgr : blkOf c.sa = some gr ∨ w.heap.size ≤ gr := by
      rcases hl3 with e | e
      · exact .inl (by rw [← own_blk c.sa c.sl c.sc]; exact e)
      · exact .inr (by omega)
    go_wp2
    go_returns
    have hcA : Chg (fun i => i = p ∨ blkOf c.sa = some i) w W := HCW.out.wide fun _ _ e => .inl e
    have hcB : Chg (fun i => i = p ∨ blkOf c.sa = some i) w w3 := Chg.andThen (hcA.drew.alloc _) (Chg.grown hg3) (fun i _ e => .inr (by rw [← own_blk c.sa c.sl c.sc]; exact e))
    have hnb : ∀ b, blkOf a2 = some b → w.heap.size ≤ b ∧ b < W.heap.size := fun b e => HN1.out.row.lt b (by rw [own_blk]; exact e)
    refine ⟨rfl, a2, c2, gr, cap, ?_, fun b e => (hnb b e).1, ?_, hgr, hb4.set 3 _, hcB.set (p := p) (fun _ => .inl rfl) _ _⟩
    · refine (HN1.out.mono (Nat.zero_le _)).same fun b e => ?_
      have hb := hnb b e
      have htg : tag W b = some 92 := row_tag HN1.out.row (by rw [own_blk]; exact e)
      rw [Below.heap_setCell _ _ _ _ (tag_ne htg (Box.tag HBW.out) (by decide))]
      exact (hg3.block b (by simp; omega) (fun e' => tag_ne htg (row_tag hrW e'.symm) (by decide) rfl)).trans (Below.heap_alloc W.drew _ b hb.2)
    · have e : cellsG (since ++ [ch]) = cellsG since ++ [.int .i64 kd, .string s, .string u, .int .i64 fl] := by rw [cellsG_append, cellsG, cellsG, ev]; rfl
      rw [e]
      exact row_same hr3 (fun b e => Below.heap_setCell _ _ _ _ (by cases e; exact hgp))
theorem rchange_at {w : World} {p : Nat} {S : PFs} {g : RG} (h : RfAt w p S g) (c : PChange) (hn : S.names.length ≤ 4000000) (hs : S.since.length ≤ 1000000) :
    Calls Try.prog 59 #[at_ p, .agg (cellsG1 c).toArray] w fun e w' => e = .returned (.tuple #[]) ∧ ∃ g', RfAt w' p (S.change c) g' ∧ RTurn p g g' w w' := by
  refine (rchange_any w p (rcOf S g) h.fs S.names S.since c h.names hn rfl hs h.since).mono ?_
  rintro e w' ⟨rfl, a', c', gr, cap, hN, hnew, hr, hg, hb, hc⟩
  have hlt : ∀ k, RIn g k → k < w.heap.size := fun k hk => h.foot_lt (.inr hk)
  have hkeep : ∀ k, RIn g k → blkOf g.sa ≠ some k → w'.heap[k]? = w.heap[k]? := fun k hk hne => hc.block k (hlt k hk) (fun e => e.elim (h.in_ne hk) hne)
  refine ⟨rfl, { g with na := a', nc := c', sa := some ⟨gr, 0, none⟩, sc := cap }, ⟨?_, ?_, h.eq, fun r hr' => ?_, hN, ?_, ?_⟩, ⟨hc.wide fun i _ e => e.imp id (fun e => .inr (.inr (.inr (.inl e)))), fun k hk => ?_⟩⟩
  · refine Box.eq hb ?_
    simp [rcOf, RC.arr, PFs.change]
  · exact row_same h.row fun b e => hkeep b (.inl (by rw [← own_blk g.fa]; exact e)) (fun e' => tag_ne (h.tagS e') (row_tag h.row e) (by decide) rfl)
  · exact (h.bytes r hr').same fun b e => hkeep b (.inr (.inr (.inr (.inr ⟨r, hr', e⟩)))) (fun e' => tag_ne (h.tagS e') (h.tagB hr' e) (by decide) rfl)
  · exact h.lasts.same fun b e => hkeep b (.inr (.inr (.inl e))) (fun e' => tag_ne (h.tagS e') (h.tagL e) (by decide) rfl)
  · show World.ownsRow _ 0 _ 4 (.slice (some ⟨gr, 0, none⟩) (S.since ++ [c]).length cap) (S.since ++ [c]).length (cellsG (S.since ++ [c]))
    rw [List.length_append]
    exact hr
  · rcases hk with e | e | e | e | e
    · exact .inl (.inl e)
    · exact .inr (hnew k e)
    · exact .inl (.inr (.inr (.inl e)))
    · obtain rfl := Option.some.inj (show some gr = some k from e)
      exact hg.imp (fun e => .inr (.inr (.inr (.inl e)))) id
    · exact .inl (.inr (.inr (.inr (.inr e))))
end Go.Proofs.Ytkelahekfkhcfaa
/- The contracts of the document's own Remove and Rename. -/
namespace Go.Proofs.Ytkelahekfkhcfaa
open Go.RowKit
theorem RInv.change {S : PFs} (h : RInv S) {c : PChange} (hok : OkC S.files.length S.names c) (ha : S.lasts.length + S.since.length + 1 ≤ S.asked) (hfr : c.kind = 1 → ∀ x ∈ S.lasts.map (·.file) ++ news S.since, x ≠ c.file) : RInv (S.change c) := ⟨h.inv.change hok ha hfr, h.some_⟩
theorem RTurn.after {p : Nat} {g g' : RG} {w w2 w' : World} (hc : Chg (fun k => k = p) w w2) (ht : RTurn p g g' w2 w') : RTurn p g g' w w' := ⟨Chg.andThen (hc.wide fun _ _ e => .inl e) ht.chg (fun _ _ e => e), fun k hk => (ht.foot k hk).imp id (fun h => Nat.le_trans hc.size h)⟩
theorem RInv.fewN {S : PFs} (h : RInv S) : S.names.length ≤ 4000000 := Nat.le_trans h.inv.few (by decide)
set_option maxRecDepth 100000 in
set_option maxHeartbeats 1000000 in
theorem rremove_at {w : World} {p : Nat} {S : PFs} {g : RG} (h : RfAt w p S g) (hI : RInv S) (ha : S.asked < 1000000) (name : ByteArray) : Calls Try.prog 34 #[at_ p, .string name] w fun e w' => e = .returned (.int .i64 ((S.remove name.data.toList).2 : Nat)) ∧ RInv (S.remove name.data.toList).1 ∧ ∃ g', RfAt w' p (S.remove name.data.toList).1 g' ∧ RTurn p g g' w w' := by
  obtain ⟨q, ql, qs, qf, qq, qa⟩ := ask_same S
  go_enter Try.func34, Try.ntmps34
  go_wp2_with fail
  refine (rask_at h hI ha).mono ?_
  rintro e w2 ⟨rfl, h2, hI2, hc2⟩
  by_cases h0 : S.ask.2 = 0
  case neg =>
    have hS : S.remove name.data.toList = S.ask := by rw [PFs.remove, if_pos h0]
    obtain ⟨er, her⟩ : ∃ er : Int, er = ((S.ask.2 : Nat) : Int) := ⟨_, rfl⟩
    have hne : er ≠ 0 := by omega
    have HE : Hid (er = ((S.ask.2 : Nat) : Int)) := her
    rw [← her]
    clear her
    go_wp2
    go_returns
    rw [hS]
    exact ⟨ret1 (congrArg (Value.int .i64) HE.out), hI2, g, h2, RTurn.own hc2⟩
  case pos =>
    rw [h0]
    obtain ⟨q0, q1, _⟩ := h2.fs.cells
    have hfd := rfind_at h2 name
    simp only [rcOf] at q1
    rw [q] at q1 hfd
    have hcall := rchange_at h2 ⟨3, name.data.toList, [], 0⟩ hI2.fewN hI2.inv.fewS
    rw [show cellsG1 ⟨3, name.data.toList, [], 0⟩ = [.int .i64 3, .string name, .string ByteArray.empty, .int .i64 0] by unfold cellsG1; rw [strOf_self]; rfl] at hcall
    have HF : Hid (RfAt w2 p S.ask.1 g) := h2
    have HI2 : Hid (RInv S.ask.1) := hI2
    have H0 : Hid (S.ask.2 = 0) := h0
    have HC : Hid (Chg (fun k => k = p) w w2) := hc2
    have HQ : Hid (S.ask.1.names = S.names) := q
    clear h2 ql qs qf hI2 h0 q0 hc2 q
    go_wp2_with fail
    refine hfd.mono ?_
    clear hfd
    rintro e w3 ⟨hw3, (⟨hf, rfl⟩ | ⟨i, k, hf, hi, hik, rfl⟩)⟩
    · obtain rfl : w3 = w2 := hw3
      have HS : Hid (S.remove name.data.toList = (S.ask.1, 42)) := by
        unfold Hid
        rw [PFs.remove, if_neg (by have := H0.out; omega), hf]
      clear hf
      go_wp2
      go_returns
      rw [HS.out]
      exact ⟨rfl, HI2.out, g, HF.out, RTurn.own HC.out⟩
    · obtain rfl : w3 = w2 := hw3
      have HS : Hid (S.remove name.data.toList = (S.ask.1.change ⟨3, name.data.toList, [], 0⟩, 0)) := by
        unfold Hid
        rw [PFs.remove, if_neg (by have := H0.out; omega), hf]
      have HK : Hid (findN S.ask.1.names name.data.toList = some k) := by unfold Hid; rw [HQ.out]; exact hf
      have hi1 : (0 : Int) ≤ (i : Int) := by omega
      clear hf hik
      go_wp2_with fail
      refine hcall.mono ?_
      rintro e w4 ⟨rfl, g', h4, ht⟩
      go_wp2
      go_returns
      rw [HS.out]
      exact ⟨rfl, HI2.out.change ⟨.inr (.inr rfl), fun e => by simp at e, fun e => by simp at e, fun _ => by rw [HK.out]; rfl⟩ (hI.inv.room ha) (fun e => by simp at e), g', h4, ht.after HC.out⟩
set_option maxRecDepth 100000 in
set_option maxHeartbeats 1000000 in
theorem rrename_at {w : World} {p : Nat} {S : PFs} {g : RG} (h : RfAt w p S g) (hI : RInv S) (ha : S.asked < 1000000) (name tn : ByteArray) : Calls Try.prog 33 #[at_ p, .string name, .string tn] w fun e w' => e = .returned (.int .i64 ((S.rename name.data.toList tn.data.toList).2 : Nat)) ∧ RInv (S.rename name.data.toList tn.data.toList).1 ∧ ∃ g', RfAt w' p (S.rename name.data.toList tn.data.toList).1 g' ∧ RTurn p g g' w w' := by
  obtain ⟨q, ql, qs, qf, qq, qa⟩ := ask_same S
  go_enter Try.func33, Try.ntmps33
  go_wp2_with fail
  refine (rask_at h hI ha).mono ?_
  rintro e w2 ⟨rfl, h2, hI2, hc2⟩
  by_cases h0 : S.ask.2 = 0
  case neg =>
    have hS : S.rename name.data.toList tn.data.toList = S.ask := by rw [PFs.rename, if_pos h0]
    obtain ⟨er, her⟩ : ∃ er : Int, er = ((S.ask.2 : Nat) : Int) := ⟨_, rfl⟩
    have hne : er ≠ 0 := by omega
    have HE : Hid (er = ((S.ask.2 : Nat) : Int)) := her
    rw [← her]
    clear her
    go_wp2
    go_returns
    rw [hS]
    exact ⟨ret1 (congrArg (Value.int .i64) HE.out), hI2, g, h2, RTurn.own hc2⟩
  case pos =>
    rw [h0]
    obtain ⟨q0, q1, _⟩ := h2.fs.cells
    have hfd := rfind_at h2 name
    simp only [rcOf] at q1
    rw [q] at q1 hfd
    have hcall : ∀ k : Nat, Calls Try.prog 59 #[at_ p, .agg #[.int .i64 2, .string name, .string tn, .int .i64 ((k : Nat) : Int)]] w2 fun e w' => e = .returned (.tuple #[]) ∧ ∃ g', RfAt w' p (S.ask.1.change ⟨2, name.data.toList, tn.data.toList, k⟩) g' ∧ RTurn p g g' w2 w' := fun k => by
      have := rchange_at h2 ⟨2, name.data.toList, tn.data.toList, k⟩ hI2.fewN hI2.inv.fewS
      rw [show cellsG1 ⟨2, name.data.toList, tn.data.toList, k⟩ = [.int .i64 2, .string name, .string tn, .int .i64 ((k : Nat) : Int)] by unfold cellsG1; rw [strOf_self, strOf_self]; rfl] at this
      exact this
    have HF : Hid (RfAt w2 p S.ask.1 g) := h2
    have HI2 : Hid (RInv S.ask.1) := hI2
    have H0 : Hid (S.ask.2 = 0) := h0
    have HC : Hid (Chg (fun k => k = p) w w2) := hc2
    have HQ : Hid (S.ask.1.names = S.names) := q
    clear h2 ql qs qf hI2 h0 q0 hc2 q
    go_wp2_with fail
    refine hfd.mono ?_
    clear hfd
    rintro e w3 ⟨hw3, (⟨hf, rfl⟩ | ⟨i, k, hf, hi, hik, rfl⟩)⟩
    · obtain rfl : w3 = w2 := hw3
      have HS : Hid (S.rename name.data.toList tn.data.toList = (S.ask.1, 42)) := by
        unfold Hid
        rw [PFs.rename, if_neg (by have := H0.out; omega), hf]
      clear hf
      go_wp2
      go_returns
      rw [HS.out]
      exact ⟨rfl, HI2.out, g, HF.out, RTurn.own HC.out⟩
    · obtain rfl : w3 = w2 := hw3
      have HK : Hid (findN S.names name.data.toList = some k) := hf
      have hi1 : (0 : Int) ≤ (i : Int) := by omega
      have hi2 : (i : Int) < (S.names.length : Int) := by omega
      obtain ⟨nb, noff, hna, n0, n1, hnc, hnm⟩ := HF.out.nameAt (i := i) (by rw [HQ.out]; exact hi)
      rw [HQ.out] at n1 hnc
      rw [hik] at n1
      unfold maxLen at hnm
      rw [hna] at q1
      clear hf hik n0
      cases hgd : goodN tn.data.toList with
      | false =>
        have HS : Hid (S.rename name.data.toList tn.data.toList = (S.ask.1, 40)) := by
          unfold Hid
          rw [PFs.rename, if_neg (by have := H0.out; omega), HK.out]
          show (if goodN tn.data.toList = false then _ else _) = _
          rw [if_pos hgd]
        have hgood := rgood_any tn w3
        rw [hgd] at hgood
        clear hgd
        go_wp2_with fail
        refine hgood.mono ?_
        rintro e w4 ⟨rfl, hw4⟩
        obtain rfl : w4 = w3 := hw4
        go_wp2
        go_returns
        rw [HS.out]
        exact ⟨rfl, HI2.out, g, HF.out, RTurn.own HC.out⟩
      | true =>
        have HS : Hid (S.rename name.data.toList tn.data.toList = (S.ask.1.change ⟨2, name.data.toList, tn.data.toList, k⟩, 0)) := by
          unfold Hid
          rw [PFs.rename, if_neg (by have := H0.out; omega), HK.out]
          show (if goodN tn.data.toList = false then _ else _) = _
          rw [if_neg (by rw [hgd]; simp)]
        have hgood := rgood_any tn w3
        rw [hgd] at hgood
        have HG : Hid (goodN tn.data.toList = true) := hgd
        clear hgd
        go_wp2_with fail
        refine hgood.mono ?_
        rintro e w4 ⟨rfl, hw4⟩
        obtain rfl : w4 = w3 := hw4
        clear hgood
        go_wp2_with fail
        refine (hcall k).mono ?_
        rintro e w4 ⟨rfl, g', h4, ht⟩
        go_wp2
        go_returns
        rw [HS.out]
        exact ⟨rfl, HI2.out.change ⟨.inr (.inl rfl), fun e => by simp at e, fun _ => ⟨by rw [HQ.out]; exact HK.out, HG.out⟩, fun e => by simp at e⟩ (hI.inv.room ha) (fun e => by simp at e), g', h4, ht.after HC.out⟩
end Go.Proofs.Ytkelahekfkhcfaa
/- The contract of the document's own Create. -/
namespace Go.Proofs.Ytkelahekfkhcfaa
open Go.RowKit
theorem infoFile : (Try.prog.info? 76).map (fun i => (i.zero, i.size, i.bytes)) = some (some (.agg #[.slice none 0 0, .int .i64 0]), 2, 32) := by kernel_rfl
theorem wpList_app_lies (w : World) {ops : Array Oper} {rest : List Oper} {o : Oper} {a : Act} {Q : Exit → Act → World → Prop} (hgd : o.guard = none) (s x : Operand) (t : TypeId)
    (ho : o.op = .call { callee := .builtin .append, args := #[s, x], argTypes := #[t, t] })
    (base : Nat) (e : TypeId) (i : TypeInfo) (z : Value) (size bytes : Nat) (ht : Try.prog.underlying t = some (.slice e)) (hi : Try.prog.info? e = some i) (hz : i.zero = some z)
    (hsize : i.size = size) (hby : i.bytes = bytes) (hzs : z.cells.size = size) (hsz : 0 < size)
    (v : Value) (n : Nat) (xs : List Value) (hs : a.eval s = v) (hown : w.ownsRow base e size v n xs)
    (ad : Addr) (m c : Nat) (news : List Value) (hx : a.eval x = .slice (some ad) m c) (hl : news.length = m * size) (hnews : ∀ j u, news[j]? = some u → w.cell? (ad.add j) = some u) (h1 : ∀ u ∈ news, u.oneCell' = true)
    (hm : 0 < m) (h63 : n + m ≤ maxLen) (hbytes : (n + m) * bytes ≤ 140737488355328) (hbase : base ≤ w.heap.size) (H : Nat) (hH : w.heap.size = H)
    (h : ∀ g cap w', w'.ownsRow base e size (.slice (some ⟨g, 0, none⟩) (n + m) cap) (n + m) (xs ++ news) → w.grownBy w' v.ownBlock → (v.ownBlock = some g ∨ g = H) → g < w'.heap.size → wpList Try.prog ops Q rest (a.put o.dst (.slice (some ⟨g, 0, none⟩) (n + m) cap)) w') :
    wpList Try.prog ops Q (o :: rest) a w :=
  wpList_plain hgd fun _ hK => wp_append_lies w s x t ho base e i z size bytes ht hi hz hsize hby hzs hsz v n xs hs hown ad m c news hx hl hnews h1 hm h63 hbytes hbase H hH (fun g cap w' a1 a2 a3 a4 => hK _ _ (h g cap w' a1 a2 a3 a4))
/-- One more file. -/
theorem RfAt.more {w w' : World} {p : Nat} {S S' : PFs} {g : RG} (h : RfAt w p S g) {fr cap : Nat} (e4 : S'.files = S.files ++ [file0]) (e1 : S'.names = S.names) (e2 : S'.lasts = S.lasts) (e3 : S'.since = S.since)
    (hr : w'.ownsRow 0 76 2 (.slice (some ⟨fr, 0, none⟩) (S.files.length + 1) cap) (S.files.length + 1) (cellsF (g.fl ++ [rf0]))) (hfs : RB w' p (rcOf S' { g with fa := some ⟨fr, 0, none⟩, fc := cap, fl := g.fl ++ [rf0] })) (hc : Chg (fun i => i = p ∨ blkOf g.fa = some i) w w') : RfAt w' p S' { g with fa := some ⟨fr, 0, none⟩, fc := cap, fl := g.fl ++ [rf0] } := by
  have hkeep : ∀ k, RIn g k → blkOf g.fa ≠ some k → w'.heap[k]? = w.heap[k]? := fun k hk hne => hc.block k (h.foot_lt (.inr hk)) (fun e => e.elim (h.in_ne hk) hne)
  refine ⟨hfs, ?_, ?_, fun r hr' => ?_, ?_, ?_, ?_⟩
  · rw [e4, List.length_append]
    exact hr
  · rw [e4, h.eq, List.map_append]
    rfl
  · rcases List.mem_append.1 hr' with hm | hm
    · exact (h.bytes r hm).same fun b e => hkeep b (.inr (.inr (.inr (.inr ⟨r, hm, e⟩)))) (fun e' => tag_ne (h.tagF e') (h.tagB hm e) (by decide) rfl)
    · rw [List.mem_singleton.1 hm]
      exact ⟨rfl, World.ownsRow_nil _ _ _ 1⟩
  · rw [e1]
    exact h.names.same fun b e => hkeep b (.inr (.inl e)) (fun e' => tag_ne (h.tagF e') (h.tagN e) (by decide) rfl)
  · rw [e2]
    exact h.lasts.same fun b e => hkeep b (.inr (.inr (.inl e))) (fun e' => tag_ne (h.tagF e') (h.tagL e) (by decide) rfl)
  · rw [e3]
    exact row_same h.since fun b e => hkeep b (.inr (.inr (.inr (.inl (by rw [← own_blk g.sa]; exact e))))) (fun e' => tag_ne (h.tagF e') (row_tag h.since e) (by decide) rfl)
set_option maxRecDepth 100000 in
set_option maxHeartbeats 2000000 in
theorem rcreate_at {w : World} {p : Nat} {S : PFs} {g : RG} (h : RfAt w p S g) (hI : RInv S) (ha : S.asked < 1000000) (name : ByteArray) : Calls Try.prog 30 #[at_ p, .string name] w fun e w' => e = .returned (.int .i64 ((S.create name.data.toList).2 : Nat)) ∧ RInv (S.create name.data.toList).1 ∧ ∃ g', RfAt w' p (S.create name.data.toList).1 g' ∧ RTurn p g g' w w' := by
  obtain ⟨q, ql, qs, qf, qq, qa⟩ := ask_same S
  obtain ⟨i0, hi0, hz0, hz1, hz2⟩ := info_parts infoFile
  go_enter Try.func30, Try.ntmps30
  go_wp2_with fail
  refine (rask_at h hI ha).mono ?_
  rintro e w2 ⟨rfl, h2, hI2, hc2⟩
  by_cases h0 : S.ask.2 = 0
  case neg =>
    have hS : S.create name.data.toList = S.ask := by rw [PFs.create, if_pos h0]
    obtain ⟨er, her⟩ : ∃ er : Int, er = ((S.ask.2 : Nat) : Int) := ⟨_, rfl⟩
    have hne : er ≠ 0 := by omega
    have HE : Hid (er = ((S.ask.2 : Nat) : Int)) := her
    rw [← her]
    clear her
    go_wp2
    go_returns
    rw [hS]
    exact ⟨ret1 (congrArg (Value.int .i64) HE.out), hI2, g, h2, RTurn.own hc2⟩
  case pos =>
    rw [h0]
    obtain ⟨q0, q1, _⟩ := h2.fs.cells
    have s0 := Box.soft h2.fs 0
    have hfd := rfind_at h2 name
    have hgood := rgood_any name w2
    have hrow := h2.row
    simp only [rcOf] at q0 q1
    rw [q] at q1 hfd
    rw [qf] at q0 hrow
    have HF : Hid (RfAt w2 p S.ask.1 g) := h2
    have HI2 : Hid (RInv S.ask.1) := hI2
    have H0 : Hid (S.ask.2 = 0) := h0
    have HC : Hid (Chg (fun k => k = p) w w2) := hc2
    have HQ : Hid (S.ask.1.names = S.names ∧ S.ask.1.lasts = S.lasts ∧ S.ask.1.since = S.since ∧ S.ask.1.files = S.files) := ⟨q, ql, qs, qf⟩
    have hfl : S.files.length ≤ 1000000 := Nat.le_trans hI.some_ hI.inv.asked
    have hpt : tag w2 p = some 69 := h2.tagP
    have hB2 := h2.fs
    clear h2 ql qs qf hI2 h0 hc2 q
    cases hgd : goodN name.data.toList with
    | false =>
      have HS : Hid (S.create name.data.toList = (S.ask.1, 40)) := by
        unfold Hid
        rw [PFs.create, if_neg (by have := H0.out; omega), if_pos hgd]
      rw [hgd] at hgood
      clear hgd
      go_wp2_with fail
      refine hgood.mono ?_
      rintro e w4 ⟨rfl, hw4⟩
      obtain rfl : w4 = w2 := hw4
      go_wp2
      go_returns
      rw [HS.out]
      exact ⟨rfl, HI2.out, g, HF.out, RTurn.own HC.out⟩
    | true =>
      rw [hgd] at hgood
      have HG : Hid (goodN name.data.toList = true) := hgd
      clear hgd
      go_wp2_with fail
      refine hgood.mono ?_
      rintro e w4 ⟨rfl, hw4⟩
      obtain rfl : w4 = w2 := hw4
      clear hgood
      go_wp2_with fail
      refine hfd.mono ?_
      clear hfd
      rintro e w5 ⟨hw5, (⟨hf, rfl⟩ | ⟨i, k, hf, hi, hik, rfl⟩)⟩
      · obtain rfl : w5 = w4 := hw5
        obtain ⟨S0, hS0⟩ : ∃ S0 : PFs, S0 = { S.ask.1 with files := S.files ++ [file0] } := ⟨_, rfl⟩
        have HS0 : Hid (S0 = { S.ask.1 with files := S.files ++ [file0] }) := hS0
        have HS : Hid (S.create name.data.toList = (S0.change ⟨1, name.data.toList, [], S.files.length⟩, 0)) := by
          unfold Hid
          rw [PFs.create, if_neg (by have := H0.out; omega), if_neg (by rw [HG.out]; simp), if_neg (by rw [hf]; simp), hS0]
        have HK : Hid (findN S.names name.data.toList = none) := hf
        clear hf hS0
        have hone : ∀ y ∈ [Value.slice none 0 0, .int .i64 0], y.oneCell' = true := by
          intro y hy
          simp at hy
          rcases hy with rfl | rfl <;> rfl
        have hrA : (w5.alloc (.cells #[.slice none 0 0, .int .i64 0] 76)).ownsRow 0 76 2 (.slice g.fa S.files.length g.fc) S.files.length (cellsF g.fl) := row_same hrow (fun b e => Below.heap_alloc w5 _ b (tag_lt (row_tag hrow e)))
        have hnews := World.news_of_block (w := w5.alloc (.cells #[.slice none 0 0, .int .i64 0] 76)) (heap_alloc_new w5 _)
        have hbA : RB (w5.alloc (.cells #[.slice none 0 0, .int .i64 0] 76)) p (rcOf S.ask.1 g) := Box.alloc hB2 _
        have hpn : ∀ b, (Value.slice g.fa S.files.length g.fc).ownBlock = some b → p ≠ b := fun b e => tag_ne hpt (row_tag hrow e) (by decide)
        have hpW : p < w5.heap.size := tag_lt hpt
        go_wp2_with (first
          | (at_builtin; refine wpList_app_lies _ rfl _ _ 65 rfl 0 76 i0 _ 2 32 Try.underlying65 hi0 hz0 hz1 hz2 rfl (by decide) _ _ (cellsF g.fl) rfl hrA _ 1 1 [.slice none 0 0, .int .i64 0] rfl rfl hnews hone (by omega) (by unfold maxLen; omega) (by omega) (Nat.zero_le _) (w5.heap.size + 1) (by simp) ?_))
        intro fr cap w6 hr6 hg6 hl6 hlt6
        have hb6 : RB w6 p (rcOf S.ask.1 g) := hbA.kept (hg6.block p (by simp; omega) (fun e => hpn p e.symm rfl))
        have k0 := hb6.cell 0
        have f0 := hb6.soft 0
        simp [rcOf, RC.arr] at k0
        have hsz6 := hg6.size
        simp at hsz6
        have hfp : fr ≠ p := by
          rcases hl6 with e | e
          · exact (hpn fr e).symm
          · omega
        have hfrg : blkOf g.fa = some fr ∨ w5.heap.size ≤ fr := hl6.imp (fun e => by rw [← own_blk g.fa S.files.length g.fc]; exact e) (fun e => by omega)
        have hc6 : Chg (fun i => i = p ∨ blkOf g.fa = some i) w5 w6 := Chg.andThen ((Chg.refl _ w5).alloc _) (Chg.grown hg6) (fun i _ e => .inr (by rw [← own_blk g.fa S.files.length g.fc]; exact e))
        have hm7 : RfAt (w6.setCell ⟨p, 0, none⟩ (.slice (some ⟨fr, 0, none⟩) (S.files.length + 1) cap)) p S0 { g with fa := some ⟨fr, 0, none⟩, fc := cap, fl := g.fl ++ [rf0] } := by
          obtain ⟨q, ql, qs, qf⟩ := HQ.out
          refine HF.out.more (by rw [HS0.out, qf]) (by rw [HS0.out]) (by rw [HS0.out]) (by rw [HS0.out]) ?_ ?_ (hc6.set (p := p) (fun _ => .inl rfl) _ _)
          · rw [qf, cellsF_append]
            exact row_same hr6 fun b e => Below.heap_setCell _ _ _ _ (by cases e; exact hfp)
          · refine Box.eq (Box.set hb6 0 _) ?_
            rw [HS0.out]
            simp [rcOf, RC.arr]
        have HM7 : Hid (RfAt (w6.setCell ⟨p, 0, none⟩ (.slice (some ⟨fr, 0, none⟩) (S.files.length + 1) cap)) p S0 { g with fa := some ⟨fr, 0, none⟩, fc := cap, fl := g.fl ++ [rf0] }) := hm7
        have n1 : S0.names = S.names := by rw [HS0.out]; exact HQ.out.1
        have n2 : S0.lasts = S.lasts := by rw [HS0.out]; exact HQ.out.2.1
        have n3 : S0.since = S.since := by rw [HS0.out]; exact HQ.out.2.2.1
        have n4 : S0.files = S.files ++ [file0] := by rw [HS0.out]
        have n5 : S0.files.length = S.files.length + 1 := by rw [n4]; simp
        have n6 : S0.asked = S.asked + 1 := by rw [HS0.out]; exact qa
        have HI0 : Hid (RInv (S0.change ⟨1, name.data.toList, [], S.files.length⟩)) := by
          have hI2 := HI2.out.inv
          have qf := HQ.out.2.2.2
          have hK : S.ask.1.files.length ≤ S0.files.length := by rw [n5, qf]; omega
          have hfo : ∀ j, S0.fileOf j = S.ask.1.fileOf j := fun j => by
            rw [← fileOf_more S.ask.1 j]
            unfold PFs.fileOf
            rw [n4, qf]
          have hI0 : Inv S0 := ⟨by rw [HS0.out]; exact hI2.asked, by rw [HS0.out]; exact hI2.quota, by rw [HS0.out]; exact hI2.fuse, by rw [HS0.out]; exact hI2.fail, by have := hI2.lasts.mono hK; rw [HQ.out.2.1, ← n2] at this; exact this, by have := Chain.mono hK hI2.chain; rw [HQ.out.1, HQ.out.2.1, HQ.out.2.2.1, ← n1, ← n2, ← n3] at this; exact this, by have := hI2.count; rw [n2, n3, n6]; rw [HQ.out.2.1, HQ.out.2.2.1, qa] at this; exact this, fun k => by rw [hfo]; exact hI2.lens k, fun k => by rw [hfo]; exact hI2.last k, by have := hI2.fresh; rw [HQ.out.2.1, HQ.out.2.2.1, ← n2, ← n3] at this; exact this⟩
          have hok : OkC S0.files.length S0.names ⟨1, name.data.toList, [], S.files.length⟩ := ⟨.inl rfl, fun _ => ⟨HG.out, by rw [n1]; exact HK.out, by rw [n5]; exact Nat.lt_succ_self _, fun x hx => by
            rw [n1] at hx
            have := (hI.inv.nice.good x hx).2
            show x.file ≠ S.files.length
            omega⟩, fun e => by simp at e, fun e => by simp at e⟩
          refine ⟨hI0.change hok (by have := hI.inv.room ha; rw [HQ.out.2.1, HQ.out.2.2.1, qa] at this; rw [n2, n3, n6]; exact this) (fun _ x hx => ?_), ?_⟩
          · rw [n2, n3] at hx
            have hlt : x < S.files.length := by
              rcases List.mem_append.1 hx with hx | hx
              · obtain ⟨y, hy, rfl⟩ := List.mem_map.1 hx
                exact (hI.inv.lasts.good y hy).2
              · obtain ⟨c, hc, h1, rfl⟩ := mem_news.1 hx
                exact Chain.files hI.inv.chain c hc h1
            show x ≠ S.files.length
            omega
          · show S0.files.length ≤ S0.asked
            rw [n5, n6]
            have := hI.some_
            omega
        have hcall := rchange_at HM7.out ⟨1, name.data.toList, [], S.files.length⟩ (by rw [n1]; exact Nat.le_trans hI.inv.few (by decide)) (by rw [n3]; exact hI.inv.fewS)
        rw [show cellsG1 ⟨1, name.data.toList, [], S.files.length⟩ = [.int .i64 1, .string name, .string ByteArray.empty, .int .i64 ((S.files.length : Nat) : Int)] by unfold cellsG1; rw [strOf_self]; rfl] at hcall
        have HC6 : Hid (Chg (fun i => i = p ∨ blkOf g.fa = some i) w5 (w6.setCell ⟨p, 0, none⟩ (.slice (some ⟨fr, 0, none⟩) (S.files.length + 1) cap))) := hc6.set (p := p) (fun _ => .inl rfl) _ _
        clear hrA hnews hbA q0 q1 hB2 hrow n1 n2 n3 n4 n5 n6 hm7 hc6
        go_wp2_with fail
        refine hcall.mono ?_
        rintro e w8 ⟨rfl, g', h8, ht⟩
        go_wp2
        go_returns
        rw [HS.out]
        have hsz := HC.out.size
        have hsz7 := HC6.out.size
        refine ⟨rfl, HI0.out, g', h8, Chg.andThen (HC.out.wide fun _ _ e => .inl e) (Chg.andThen (R := fun k => RFoot p g k ∨ w5.heap.size ≤ k) (HC6.out.wide fun _ _ e => .inl (e.imp id .inl)) ht.chg (fun k _ e => ?_)) (fun k hk e => e.elim id (fun e => by omega)), fun k hk => ?_⟩
        · rcases e with e | e | e | e | e | ⟨r, hr, e⟩
          · exact .inl (.inl e)
          · obtain rfl := Option.some.inj (show some fr = some k from e)
            exact hfrg.imp (fun e => .inr (.inl e)) id
          · exact .inl (.inr (.inr (.inl e)))
          · exact .inl (.inr (.inr (.inr (.inl e))))
          · exact .inl (.inr (.inr (.inr (.inr (.inl e)))))
          · rcases List.mem_append.1 hr with hm | hm
            · exact .inl (.inr (.inr (.inr (.inr (.inr ⟨r, hm, e⟩)))))
            · rw [List.mem_singleton.1 hm] at e
              cases e
        · rcases ht.foot k hk with e | e
          · rcases e with e | e | e | e | ⟨r, hr, e⟩
            · obtain rfl := Option.some.inj (show some fr = some k from e)
              exact hfrg.imp .inl (fun e => Nat.le_trans hsz e)
            · exact .inl (.inr (.inl e))
            · exact .inl (.inr (.inr (.inl e)))
            · exact .inl (.inr (.inr (.inr (.inl e))))
            · rcases List.mem_append.1 hr with hm | hm
              · exact .inl (.inr (.inr (.inr (.inr ⟨r, hm, e⟩))))
              · rw [List.mem_singleton.1 hm] at e
                cases e
          · exact .inr (by omega)
      · obtain rfl : w5 = w4 := hw5
        have HS : Hid (S.create name.data.toList = (S.ask.1, 41)) := by
          unfold Hid
          rw [PFs.create, if_neg (by have := H0.out; omega), if_neg (by rw [HG.out]; simp), if_pos (by rw [hf]; rfl)]
        have hi1 : (0 : Int) ≤ (i : Int) := by omega
        clear hf hik
        go_wp2
        go_returns
        rw [HS.out]
        exact ⟨rfl, HI2.out, g, HF.out, RTurn.own HC.out⟩
end Go.Proofs.Ytkelahekfkhcfaa
