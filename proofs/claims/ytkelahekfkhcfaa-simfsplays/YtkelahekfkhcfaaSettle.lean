/- The contracts of settle and SyncDir. -/
import Derived.Test.YtkelahekfkhcfaaRd
namespace Go.Proofs.Ytkelahekfkhcfaa
open Go.RowKit Go.Maps
def chg0 : PChange := ⟨0, [], [], 0⟩
theorem cellsC_at (blk : Nat → Nat) : ∀ (l : List PChange) (k j : Nat), k < l.length → j < 3 → (cellsC blk l)[k * 3 + j]? = (cellsC1 blk (l.getD k chg0))[j]?
  | [], k, j, h, _ => by simp at h
  | c :: r, 0, j, _, hj => by
    rw [cellsC, List.getElem?_append_left (by rw [cellsC1_length]; omega)]
    simp [List.getD]
  | c :: r, k + 1, j, h, hj => by
    rw [cellsC, List.getElem?_append_right (by rw [cellsC1_length]; omega), cellsC1_length, show (k + 1) * 3 + j - 3 = k * 3 + j by omega, cellsC_at blk r k j (by simpa using h) hj]
    simp [List.getD]
theorem take_ch (l : List PChange) (k : Nat) (h : k < l.length) : l.take (k + 1) = l.take k ++ [l.getD k chg0] := by
  rw [List.take_add_one]
  simp [List.getD, h]
/-- The change at a place can be done to what those ahead made. -/
theorem Chain.at_ {K : Nat} : ∀ {s : List PChange} {l m : List PName} (k : Nat), Chain K l s m → k < s.length → OkC K ((s.take k).foldl changedN l) (s.getD k chg0)
  | [], _, _, _, _, hk => by simp at hk
  | c :: r, l, m, 0, h, _ => h.1
  | c :: r, l, m, k + 1, h, hk => by
    have := Chain.at_ (s := r) (l := changedN l c) k h.2 (by simpa using hk)
    simpa [List.getD] using this
set_option maxRecDepth 100000 in
set_option maxHeartbeats 2000000 in
theorem settle_any {K : Nat} {w : World} {p : Nat} {c : FsC} {blk : Nat → Nat} {l m : List PName} {since : List PChange} (hB : FsB w p c) (hlm : NmAt w c.ml blk l) (hN : Nice K l) (hch : Chain K l since m) (hsum : l.length + since.length ≤ 1000000) (hsl : c.sl = since.length) (hrow : w.ownsRow 0 74 3 (.slice c.sa c.sl c.sc) c.sl (cellsC blk since)) (n : Nat) (hn : n ≤ since.length) :
    Calls Try.prog 48 #[at_ p, .int .i64 (n : Int)] w fun e w' => e = .returned (.tuple #[]) ∧ ∃ ml, FsB w' p { c with ml := ml, sa := none, sl := 0, sc := 0 } ∧ NmAt w' ml blk ((since.take n).foldl changedN l) ∧ (ml = c.ml ∨ (c.ml = none ∧ ∃ m, ml = some m ∧ w.heap.size ≤ m)) ∧ Chg (fun i => i = p ∨ c.ml = some i) w w' := by
  obtain ⟨q0, q1, q2, q3, q4, q5, q6, q7, q8, q9⟩ := hB.cells
  have hN3 : n ≤ c.sl := by omega
  have hle : c.sl ≤ c.sc ∧ c.sc ≤ maxLen ∧ (c.sa = none → c.sc = 0) := by
    rcases hrow.2 with ⟨hv, h0⟩ | ⟨g, cp, cur, hv, _, _, h1, h2, _⟩
    · simp only [Value.slice.injEq] at hv
      obtain ⟨h3, h4, h5⟩ := hv
      exact ⟨by omega, by omega, fun _ => h5⟩
    · simp only [Value.slice.injEq, true_and] at hv
      obtain ⟨h3, h5⟩ := hv
      exact ⟨by omega, by omega, fun e => by rw [e] at h3; cases h3⟩
  have HSL : Hid (c.sl = since.length) := hsl
  clear hsl
  have hmax := hle.2.1
  unfold maxLen at hmax
  have hpt := Box.tag hB
  cases hsa : c.sa with
  | none =>
    obtain rfl : n = 0 := by have := hle.2.2 hsa; omega
    rw [hsa] at q9
    have s9 := Box.soft hB 9
    have hz : c.sl = 0 := by have := hle.2.2 hsa; omega
    have hz2 : c.sc = 0 := hle.2.2 hsa
    rw [hz, hz2] at q9
    go_enter Try.func48, Try.ntmps48
    go_wp2
    refine wp_loop_rounds 1 ?_
    rw [rounds_succ]
    go_wp2
    go_returns
    refine ⟨rfl, c.ml, ?_, ?_, .inl rfl, (Chg.refl (fun i => i = p ∨ c.ml = some i) w).set (p := p) (fun _ => .inl rfl) _ _⟩
    · exact Box.set hB 9 _
    · refine hlm.kept fun m e => Below.heap_setCell _ _ _ _ ?_
      have := hlm
      rw [e] at this
      exact tag_ne this.tag hpt (by decide)
  | some ad =>
    have hrow' := hrow
    rw [hsa] at q9 hrow'
    obtain ⟨gr, rfl⟩ : ∃ gr, ad = ⟨gr, 0, none⟩ := by
      rcases hrow'.2 with ⟨hv, h0⟩ | ⟨g, cp, cur, hv, _⟩
      · simp at hv
      · simp only [Value.slice.injEq, Option.some.injEq] at hv
        exact ⟨g, hv.1⟩
    have hgt := row_tag hrow' (b := gr) rfl
    go_enter Try.func48, Try.ntmps48
    go_wp2
    go_loopw [13] (fun i wr => ∃ (k : Nat) (mo : Option Nat), k ≤ n ∧ i = .int .i64 (k : Int) ∧ Hid (FsB wr p { c with ml := mo }) ∧ Hid (NmAt wr mo blk ((since.take k).foldl changedN l)) ∧ Hid (mo = c.ml ∨ (c.ml = none ∧ ∃ m, mo = some m ∧ w.heap.size ≤ m)) ∧ Hid (Chg (fun i => i = p ∨ c.ml = some i) w wr)) (fun i _ => n - (intOf i).toNat)
    case atStart => exact ⟨0, c.ml, Nat.zero_le _, rfl, hB, hlm, .inl rfl, Chg.refl _ _⟩
    case round =>
      obtain ⟨k, mo, hk, rfl, HB, HM, HL, HC⟩ := hrel
      have hsz := HC.out.size
      by_cases hlt : k < n
      · have hks : k < since.length := by omega
        have hrk : wr.ownsRow 0 74 3 (.slice (some ⟨gr, 0, none⟩) c.sl c.sc) c.sl (cellsC blk since) := row_same hrow' (fun b e => HC.out.block b (tag_lt (row_tag hrow' e)) (by
          rintro (e1 | e1)
          · exact tag_ne hpt (row_tag hrow' e) (by decide) e1.symm
          · have := hlm
            rw [e1] at this
            exact tag_ne this.tag (row_tag hrow' e) (by decide) rfl))
        obtain ⟨s, u, v, ev⟩ := cellsC1_form blk (since.getD k chg0)
        have p0 := World.ownsRow.cellAt hrk (k * 3 + 0) (by omega)
        have p1 := World.ownsRow.cellAt hrk (k * 3 + 1) (by omega)
        have p2 := World.ownsRow.cellAt hrk (k * 3 + 2) (by omega)
        rw [cellsC_at blk since k _ hks (by omega), ev] at p0 p1 p2
        simp at p0 p1 p2
        have HK : Hid (OkC K ((since.take k).foldl changedN l) (since.getD k chg0)) := Chain.at_ k hch hks
        have HNk : Hid (Nice K ((since.take k).foldl changedN l)) := Chain.nice hN (Chain.take k hch)
        have hlk : ((since.take k).foldl changedN l).length ≤ 1000000 := by
          have := Chain.length (Chain.take k hch)
          have h2 : (since.take k).length ≤ since.length := by simp; omega
          omega
        have hne : ∀ m, mo = some m → m ≠ p := fun m e => by
          have := HM.out
          rw [e] at this
          exact tag_ne this.tag (Box.tag HB.out) (by decide)
        have hdo : ∀ W, Box W p 64 ({ c with ml := mo } : FsC).arr → NmAt W mo blk ((since.take k).foldl changedN l) → Calls Try.prog 43 #[.pointer (some ⟨p, 8, none⟩), .agg #[.string s, .string u, .pointer v]] W fun e w' => e = .returned (.tuple #[]) ∧ ∃ m, (mo = some m ∨ (mo = none ∧ W.heap.size ≤ m)) ∧ NmAt w' (some m) blk (changedN ((since.take k).foldl changedN l) (since.getD k chg0)) ∧ Box w' p 64 (({ c with ml := mo } : FsC).arr.setIfInBounds 8 (.map (some m))) ∧ Chg (fun i => mo = some i ∨ (mo = none ∧ i = p)) W w' := by
          intro W h1 h2
          have := do_any W p 8 64 ({ c with ml := mo } : FsC).arr mo blk _ (since.getD k chg0) h1 rfl hne h2 HNk.out HK.out hlk
          rw [ev] at this
          exact this
        have hB0 : Box (wr.alloc (.cells #[.string s, .string u, .pointer v] 74)).drew p 64 ({ c with ml := mo } : FsC).arr := Box.alloc HB.out _
        have hn0 : NmAt (wr.alloc (.cells #[.string s, .string u, .pointer v] 74)).drew mo blk ((since.take k).foldl changedN l) := HM.out.kept (fun m e => Below.heap_alloc _ _ _ (by have := HM.out; rw [e] at this; exact tag_lt this.tag))
        have hk1 : (0 : Int) ≤ (k : Int) := by omega
        have hk2 : (k : Int) < (n : Int) := by omega
        go_wp2
        go_region_with (go_at_call 43; refine (hdo _ hB0 hn0).mono ?_; rintro e w2 ⟨rfl, m2, hm2, hn2, hb2, hc2⟩)
        go_wp2
        go_roundw
        case rel =>
          refine ⟨k + 1, some m2, by omega, by go_num, hb2, ?_, ?_, ?_⟩
          · unfold Hid
            rw [take_ch since k hks, List.foldl_append]
            exact hn2
          · unfold Hid
            rcases hm2 with e | ⟨e, e2⟩
            · rcases HL.out with e1 | ⟨e1, m3, e3, e4⟩
              · exact .inl (by rw [← e, e1])
              · rw [e] at e3
                obtain rfl := Option.some.inj e3
                exact .inr ⟨e1, m2, rfl, e4⟩
            · rcases HL.out with e1 | ⟨e1, m3, e3, e4⟩
              · exact .inr ⟨by rw [← e1, e], m2, rfl, by simp at e2; omega⟩
              · rw [e] at e3
                cases e3
          · refine Chg.andThen (HC.out.alloc _).drew hc2 ?_
            rintro i hi (e | ⟨_, e⟩)
            · rcases HL.out with e1 | ⟨e1, m3, e3, e4⟩
              · exact .inr (by rw [← e1, e])
              · rw [e] at e3
                obtain rfl := Option.some.inj e3
                omega
            · exact .inl e
        case measure => simp [intOf]; omega
      · have HE : Hid (k = n) := by unfold Hid; omega
        obtain ⟨t0, t1, t2, t3, t4, t5, t6, t7, t8, t9⟩ := HB.out.cells
        have s9 := Box.soft HB.out 9
        simp only at t9
        rw [hsa] at t9
        go_wp2
        go_returns
        have e := HE.out
        subst e
        refine ⟨rfl, mo, ?_, ?_, HL.out, HC.out.set (p := p) (fun _ => .inl rfl) _ _⟩
        · exact Box.set HB.out 9 _
        · refine HM.out.kept fun m e => Below.heap_setCell _ _ _ _ ?_
          have := HM.out
          rw [e] at this
          exact tag_ne this.tag (Box.tag HB.out) (by decide)
end Go.Proofs.Ytkelahekfkhcfaa
