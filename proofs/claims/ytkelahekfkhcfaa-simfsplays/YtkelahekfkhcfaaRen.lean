/- The contract of rename: a change of names is done, and kept. -/
import Derived.Test.YtkelahekfkhcfaaDo
import Derived.Deep.AppendLies
import Derived.Deep.RegionWith
namespace Go.Proofs.Ytkelahekfkhcfaa
open Go.RowKit Go.Maps
theorem cellsC1_form (blk : Nat → Nat) (c : PChange) : ∃ s u v, cellsC1 blk c = [.string s, .string u, .pointer v] := by
  unfold cellsC1
  split
  · exact ⟨_, _, _, rfl⟩
  · split
    · exact ⟨_, _, _, rfl⟩
    · exact ⟨_, _, _, rfl⟩
theorem infoRen : (Try.prog.info? 74).map (fun i => (i.zero, i.size, i.bytes)) = some (some (.agg #[.string ByteArray.empty, .string ByteArray.empty, .pointer none]), 3, 40) := by kernel_rfl
set_option maxRecDepth 100000 in
set_option maxHeartbeats 2000000 in
theorem rename_any {K : Nat} (w : World) (p : Nat) (c : FsC) (hB : FsB w p c) (blk : Nat → Nat) (l : List PName) (since : List PChange) (ch : PChange) (hnm : NmAt w c.mn blk l) (hN : Nice K l) (hok : OkC K l ch) (hlen : l.length ≤ 1000000) (hsl : c.sl = since.length) (hs : since.length ≤ 1000000) (hrow : w.ownsRow 0 74 3 (.slice c.sa c.sl c.sc) c.sl (cellsC blk since)) :
    Calls Try.prog 44 #[at_ p, .agg (cellsC1 blk ch).toArray] w fun e w' => e = .returned (.tuple #[]) ∧ ∃ m g cap, (c.mn = some m ∨ (c.mn = none ∧ w.heap.size ≤ m)) ∧ NmAt w' (some m) blk (changedN l ch) ∧ w'.ownsRow 0 74 3 (.slice (some ⟨g, 0, none⟩) (c.sl + 1) cap) (c.sl + 1) (cellsC blk (since ++ [ch])) ∧ ((Value.slice c.sa c.sl c.sc).ownBlock = some g ∨ w.heap.size ≤ g) ∧ FsB w' p { c with mn := some m, sa := some ⟨g, 0, none⟩, sl := c.sl + 1, sc := cap } ∧ Chg (fun i => i = p ∨ c.mn = some i ∨ (Value.slice c.sa c.sl c.sc).ownBlock = some i) w w' := by
  obtain ⟨s, u, v, ev⟩ := cellsC1_form blk ch
  have hsmall : c.sl ≤ 1000000 := by omega
  have HS : Hid (c.sl = since.length) := hsl
  clear hsl
  obtain ⟨i0, hi, hz0, hz1, hz2⟩ := info_parts infoRen
  have hlt := Box.lt hB
  have hne : ∀ m, c.mn = some m → m ≠ p := fun m e => by
    have := hnm
    rw [e] at this
    exact tag_ne this.tag (Box.tag hB) (by decide)
  have hdo : ∀ W, Box W p 64 c.arr → NmAt W c.mn blk l → Calls Try.prog 43 #[.pointer (some ⟨p, 7, none⟩), .agg #[.string s, .string u, .pointer v]] W fun e w' => e = .returned (.tuple #[]) ∧ ∃ m, (c.mn = some m ∨ (c.mn = none ∧ W.heap.size ≤ m)) ∧ NmAt w' (some m) blk (changedN l ch) ∧ Box w' p 64 (c.arr.setIfInBounds 7 (.map (some m))) ∧ Chg (fun i => c.mn = some i ∨ (c.mn = none ∧ i = p)) W w' := by
    intro W h1 h2
    have := do_any W p 7 64 c.arr c.mn blk l ch h1 rfl hne h2 hN hok hlen
    rw [ev] at this
    exact this
  have hB0 : Box (w.alloc (.cells #[.string s, .string u, .pointer v] 74)).drew p 64 c.arr := Box.alloc hB _
  have hn0 : NmAt (w.alloc (.cells #[.string s, .string u, .pointer v] 74)).drew c.mn blk l := hnm.kept (fun m e => Below.heap_alloc _ _ _ (by have := hnm; rw [e] at this; exact tag_lt this.tag))
  rw [ev]
  go_enter Try.func44, Try.ntmps44
  go_wp2_with fail
  go_region_with (go_at_call 43; refine (hdo _ hB0 hn0).mono ?_; rintro e w2 ⟨rfl, m, hm, hn2, hb2, hc2⟩)
  all_goals
    have hx2 : Box w2 w.heap.size 74 #[.string s, .string u, .pointer v] := (Box.new w _ _).kept (hc2.block w.heap.size (by simp) (by
      rintro (e | ⟨_, e⟩)
      · have := hnm
        rw [e] at this
        exact absurd (tag_lt this.tag) (by omega)
      · omega))
    have d0 := hx2.cell 0
    have d1 := hx2.cell 1
    have d2 := hx2.cell 2
    simp at d0 d1 d2
    have hb3 : FsB w2 p { c with mn := some m } := hb2
    obtain ⟨q0, q1, q2, q3, q4, q5, q6, q7, q8, q9⟩ := hb3.cells
    have f9 := Box.soft hb3 9
    have hr2 : w2.ownsRow 0 74 3 (.slice c.sa c.sl c.sc) c.sl (cellsC blk since) := row_same hrow (fun b e => (hc2.block b (by have := tag_lt (row_tag hrow e); simp; omega) (by
      rintro (e1 | ⟨_, e1⟩)
      · have := hnm
        rw [e1] at this
        exact tag_ne this.tag (row_tag hrow e) (by decide) rfl
      · exact tag_ne (Box.tag hB) (row_tag hrow e) (by decide) e1.symm)).trans (Below.heap_alloc _ _ _ (tag_lt (row_tag hrow e))))
    have hpn : ∀ b, (Value.slice c.sa c.sl c.sc).ownBlock = some b → p ≠ b := fun b e => tag_ne (Box.tag hB) (row_tag hrow e) (by decide)
    have hp2 : p < w2.heap.size := Box.lt hb3
    have hone : ∀ y ∈ [Value.string s, .string u, .pointer v], y.oneCell' = true := by
      intro y hy
      simp at hy
      rcases hy with rfl | rfl | rfl <;> rfl
    have hrA : (w2.drew.alloc (.cells #[.string s, .string u, .pointer v] 74)).ownsRow 0 74 3 (.slice c.sa c.sl c.sc) c.sl (cellsC blk since) := row_same hr2 (fun b e => Below.heap_alloc w2.drew _ b (tag_lt (row_tag hr2 e)))
    have hnews := World.news_of_block (w := w2.drew.alloc (.cells #[.string s, .string u, .pointer v] 74)) (heap_alloc_new w2.drew _)
    have hbA : Box (w2.drew.alloc (.cells #[.string s, .string u, .pointer v] 74)) p 64 ({ c with mn := some m } : FsC).arr := Box.alloc (w := w2.drew) hb3 _
    go_wp2_with fail
    go_region_law (refine step_append_lies _ rfl (.tmp 13) (.tmp 15) 62 rfl 0 74 i0 _ 3 40 Try.underlying62 hi hz0 hz1 hz2 rfl (by decide) (.slice c.sa c.sl c.sc) c.sl (cellsC blk since) (by simp [Act.eval]) hrA ⟨w2.heap.size, 0, none⟩ 1 1 [.string s, .string u, .pointer v] (by simp [Act.eval]) rfl hnews hone (by omega) (by unfold maxLen; omega) (by omega) (Nat.zero_le _) (w2.heap.size + 1) (by simp) ?_; intro g cap w3 hr3 hg3 hl3 hg3lt; have hb4 := hbA.kept (hg3.block p (by simp; omega) (fun e => hpn p e.symm rfl)); have q94 := hb4.cell 9; have f94 := hb4.soft 9; simp [FsC.arr] at q94)
  all_goals
    have hsz2 : w2.heap.size + 1 = (w2.drew.alloc (.cells #[.string s, .string u, .pointer v] 74)).heap.size := by simp
    have hmm : m < w2.heap.size := tag_lt hn2.tag
    have hmp : m ≠ p := tag_ne hn2.tag (Box.tag hb3) (by decide)
    have hms : ∀ b, (Value.slice c.sa c.sl c.sc).ownBlock = some b → m ≠ b := fun b e => tag_ne hn2.tag (row_tag hr2 e) (by decide)
    have hsz3 := hg3.size
    have hgp : g ≠ p := by
      rcases hl3 with e | e
      · exact (hpn g e).symm
      · omega
    have hcA : Chg (fun i => i = p ∨ c.mn = some i ∨ (Value.slice c.sa c.sl c.sc).ownBlock = some i) w w2 := Chg.andThen ((Chg.refl _ w).alloc _).drew hc2 (fun i _ e => e.elim (fun e => .inr (.inl e)) (fun e => .inl e.2))
    have hs12 := hc2.size
    go_wp2
    go_returns
    refine ⟨rfl, m, g, cap, ?_, ?_, ?_, ?_, ?_, ?_⟩
    · exact hm.imp id (fun h => ⟨h.1, by have := h.2; simp at this; omega⟩)
    · exact hn2.kept (fun m' e => by
        cases e
        exact (Below.heap_setCell _ _ _ _ hmp).trans ((hg3.block m (by simp; omega) (fun e => hms m e.symm rfl)).trans (Below.heap_alloc w2.drew _ m hmm)))
    · have e : cellsC blk (since ++ [ch]) = cellsC blk since ++ [.string s, .string u, .pointer v] := by rw [cellsC_append, cellsC, cellsC, ev]; rfl
      rw [e]
      exact row_same hr3 (fun b e => Below.heap_setCell _ _ _ _ (by cases e; exact hgp))
    · rcases hl3 with e | e
      · exact .inl e
      · right
        simp at hs12
        omega
    · exact hb4.set 9 _
    · refine Chg.set ?_ (fun _ => .inl rfl) _ _
      exact Chg.andThen (hcA.drew.alloc _) (Chg.grown hg3) (fun i _ e => .inr (.inr e))
end Go.Proofs.Ytkelahekfkhcfaa
