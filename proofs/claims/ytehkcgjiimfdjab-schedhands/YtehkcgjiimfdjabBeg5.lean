/- The contract of begin. -/
import Derived.Test.YtehkcgjiimfdjabLone5
namespace Go.Proofs.Ytehkcgjiimfdjab
open Go.RowKit
theorem begins_len (code : List (List Ins)) (cs : List Int) : (begins code cs).ts.length = code.length := by simp [begins]
theorem begins_t (code : List (List Ins)) (cs : List Int) {i : Nat} (hi : i < code.length) : (begins code cs).t i = fresh (code.getD i []) := by simp [begins, PB.t, List.getD, hi]
theorem fresh_code (c : List Ins) : (fresh c).code = c := by simp [fresh, PTask.goTo]
/-- One task more on a board on which nothing was done. -/
theorem BdAt.push {w0 w w' : World} {p : Nat} {g : Bg} {l : List (List Ins)} {cs : List Int} (h : BdAt w0 w p g (begins l cs)) (hcs : cs.length ≤ 16) {c : List Ins} {tg : Tg} (hbox : Box w tg.q 53 (taskL l.length tg (fresh c)).toArray) (hq : w0.heap.size ≤ tg.q) (hnew : ∀ j, j < l.length → g.q j ≠ tg.q) (hcode : IcAt w0 tg.ca c.length tg.cc c) {r cap : Nat}
    (hrow : w'.ownsRow w0.heap.size TPT 1 (.slice (some ⟨r, 0, none⟩) (l.length + 1) cap) (l.length + 1) ((g.gs.map fun x => at_ x.q) ++ [at_ tg.q])) (hg : w.grownBy w' (Value.slice g.ta l.length g.tc).ownBlock) (hr : (Value.slice g.ta l.length g.tc).ownBlock = some r ∨ w.heap.size ≤ r) :
    BdAt w0 (w'.setCell ⟨p, 32, none⟩ (.slice (some ⟨r, 0, none⟩) (l.length + 1) cap)) p { g with gs := g.gs ++ [tg], ta := some ⟨r, 0, none⟩, tc := cap } (begins (l ++ [c]) cs) := by
  have hlen : (begins l cs).ts.length = l.length := begins_len l cs
  have hlen' : (begins (l ++ [c]) cs).ts.length = l.length + 1 := by rw [begins_len]; simp
  rw [own_blk] at hg hr
  have hkeep : ∀ k t, tag w k = some t → t ≠ TPT → w'.heap[k]? = w.heap[k]? := fun k t ht hne => hg.block k (tag_lt ht) (fun e => tag_ne ht (h.tagR e.symm) hne rfl)
  have hcnt : g.gs.length = l.length := h.count.trans hlen
  have hgq : ∀ j, j < l.length → ({ g with gs := g.gs ++ [tg], ta := some ⟨r, 0, none⟩, tc := cap } : Bg).q j = g.q j := fun j hj => by
    show ((g.gs ++ [tg]).getD j tg0).q = (g.gs.getD j tg0).q
    simp [List.getD, List.getElem?_append_left (show j < g.gs.length by omega)]
  have hgn : (g.gs ++ [tg]).getD l.length tg0 = tg := by simp [List.getD, ← hcnt]
  have hgo : ∀ j, j < l.length → (g.gs ++ [tg]).getD j tg0 = g.gs.getD j tg0 := fun j hj => by simp [List.getD, List.getElem?_append_left (show j < g.gs.length by omega)]
  have hpt : ∀ t k, tag w k = some t → t ≠ 49 → k ≠ p := fun t k ht hne => tag_ne ht h.tagP hne
  have hrp : r ≠ p := by
    rcases hr with e | e
    · exact hpt _ _ (h.tagR e) (by decide)
    · have := tag_lt h.tagP; omega
  have hbase' : Below w0.heap.size w0 w' := h.base.grown hg h.base.size (fun k e => (h.row.lt k (by rw [own_blk]; exact e)).1)
  refine ⟨?_, ?_, fun j hj => ?_, ?_, ?_, fun i j hi hj e => ?_, h.hp, fun j hj => ?_, hbase'.setCell h.hp _⟩
  · refine Box.eq ((h.box.kept (hkeep p _ h.tagP (by decide))).set 32 _) ?_
    rw [setArr]
    congr 1
    have lc : ((begins l cs).cells.map (Value.int .i64)).length = 16 := by simp [begins]; omega
    have lo : ((begins l cs).own.map (ownV g.gs)).length = 16 := by simp [begins]
    unfold boardL
    rw [List.set_append, if_neg (by rw [lc]; omega), lc, List.set_append, if_neg (by rw [lo]; omega), lo, hlen', hlen]
    simp [begins, ownV]
  · rw [hlen']
    simp [hcnt]
  · rw [hlen'] at hj
    by_cases e : j = l.length
    · subst e
      have et : (begins (l ++ [c]) cs).t l.length = fresh c := by rw [begins_t _ _ (by simp)]; simp [List.getD]
      show TaskAt w0 _ l.length ((g.gs ++ [tg]).getD l.length tg0) _
      rw [et, hgn]
      refine ⟨(hbox.kept (hkeep _ _ hbox.tag (by decide))).other (hpt _ _ hbox.tag (by decide)) _ _, ?_⟩
      rw [fresh_code]
      exact hcode
    · have hj' : j < l.length := by omega
      have hT := h.tasks j (by rw [hlen]; exact hj')
      have et : (begins (l ++ [c]) cs).t j = (begins l cs).t j := by
        rw [begins_t _ _ (by simp; omega), begins_t _ _ hj']
        simp [List.getD, List.getElem?_append_left hj']
      show TaskAt w0 _ j ((g.gs ++ [tg]).getD j tg0) _
      rw [et, hgo j hj']
      exact ⟨(hT.box.kept (hkeep _ _ hT.box.tag (by decide))).other (hpt _ _ hT.box.tag (by decide)) _ _, hT.code⟩
  · rw [hlen']
    show World.ownsRow _ _ _ _ _ _ ((g.gs ++ [tg]).map _)
    rw [List.map_append]
    refine row_same hrow fun b e => Below.heap_setCell _ _ _ _ ?_
    cases e
    exact hrp
  · refine row_same h.emits fun b e => ?_
    rw [own_blk] at e
    rw [Below.heap_setCell _ _ _ _ (hpt _ _ (h.tagE e) (by decide)), hkeep _ _ (h.tagE e) (by decide)]
  · rw [hlen'] at hi hj
    have hqn : ({ g with gs := g.gs ++ [tg], ta := some ⟨r, 0, none⟩, tc := cap } : Bg).q l.length = tg.q := by show ((g.gs ++ [tg]).getD l.length tg0).q = tg.q; rw [hgn]
    by_cases hi' : i < l.length
    · by_cases hj' : j < l.length
      · rw [hgq i hi', hgq j hj'] at e
        exact h.apart i j (by rw [hlen]; exact hi') (by rw [hlen]; exact hj') e
      · obtain rfl : j = l.length := by omega
        rw [hgq i hi', hqn] at e
        exact absurd e (hnew i hi')
    · obtain rfl : i = l.length := by omega
      by_cases hj' : j < l.length
      · rw [hgq j hj', hqn] at e
        exact absurd e.symm (hnew j hj')
      · omega
  · rw [hlen'] at hj
    by_cases hj' : j < l.length
    · rw [hgq j hj']
      exact h.hq j (by rw [hlen]; exact hj')
    · obtain rfl : j = l.length := by omega
      show w0.heap.size ≤ ((g.gs ++ [tg]).getD l.length tg0).q
      rw [hgn]
      exact hq
set_option maxRecDepth 100000 in
set_option maxHeartbeats 1000000 in
theorem begin_at {w : World} (a : Option Addr) (len cap : Nat) (code : List (List Ins)) (ca : Option Addr) (cl cc : Nat) (cs : List Int) (h : CdAt w a len cap code) (hc : IsAt w ca cl cc cs) (hok : allOk code cs = true) : Calls Try.prog 8 #[.slice a len cap, .slice ca cl cc] w fun e w' => ∃ p g, e = .returned (at_ p) ∧ BdAt w w' p g (begins code cs) := by
  have HC : Hid (CdAt w a len cap code) := h
  have h1 := h.le
  have h2 := h.max
  have h3 := hc.le
  have h4 := hc.max
  have HZ : Hid (code.length = len) := h.size
  unfold maxLen at h2 h4
  have hoks : len ≤ 8 ∧ cl ≤ 16 := by
    simp [allOk] at hok
    have := hc.size
    have := h.size
    omega
  have hlen := hoks.1
  have HCS : Hid (cs.length ≤ 16) := by unfold Hid; rw [hc.size]; exact hoks.2
  obtain ⟨W2, hcopy, hb2⟩ := copy_board w ca cl cc cs hc hoks.2
  have HB2 : Hid (BdAt w W2 w.heap.size g00 (begins [] cs)) := hb2
  obtain ⟨j0, hj0, hz0, hz1, hz2⟩ := info_parts infoPtr
  clear h hc hoks hb2
  go_enter Try.func8, Try.ntmps8
  go_wp2_with fail
  go_loopw [19] (fun i wr => ∃ (k : Nat) (g : Bg), k ≤ len ∧ i = .int .i64 (k : Int) ∧ Hid (BdAt w wr w.heap.size g (begins (code.take k) cs))) (fun i _ => len - (intOf i).toNat)
  case atStart => exact ⟨0, g00, Nat.zero_le _, rfl, HB2⟩
  case round =>
    obtain ⟨k, g, hkl, rfl, HB⟩ := hrel
    clear hcopy HB2
    by_cases hlt : k < len
    · have hlt' : k < code.length := by rw [HZ.out]; exact hlt
      obtain ⟨b, off, hla, hlc⟩ := (HC.out.below (Nat.le_refl _) HB.out.base).here (by omega)
      obtain ⟨aj, cj, x0, _⟩ := hlc k hlt
      obtain ⟨b', off', hla', hlc'⟩ := HC.out.here (by omega)
      obtain ⟨aj', cj', x0', hI⟩ := hlc' k hlt
      have hsame : aj' = aj ∧ cj' = cj := by
        rw [hla] at hla'
        simp only [Option.some.injEq, Addr.mk.injEq, and_true] at hla'
        obtain ⟨rfl, rfl⟩ := hla'
        rw [HB.out.base.cell (World.block_lt_of_cell? w _ x0'), x0'] at x0
        simp at x0
        exact x0
      obtain ⟨rfl, rfl⟩ := hsame
      clear hlc hlc' hla' x0'
      rw [hla]
      have HTK : Hid (code.take (k + 1) = code.take k ++ [code.getD k []]) := by
        unfold Hid
        rw [List.take_add_one, List.getElem?_eq_getElem hlt']
        simp [List.getD, hlt']
      have HLT : Hid ((code.take k).length = k) := by unfold Hid; simp; omega
      obtain ⟨c, HCC⟩ : ∃ c, Hid (c = code.getD k []) := ⟨_, rfl⟩
      have HIC : Hid (IcAt w aj' c.length cj' c) := by unfold Hid; rw [HCC.out]; exact hI
      rw [← HCC.out] at x0 HTK
      clear hI
      have hx1 : (0 : Int) ≤ (k : Int) := by omega
      have hx2 : (k : Int) < (len : Int) := by omega
      have HBX : Hid (Box (wr.alloc (.cells #[.int .i64 (k : Int), .slice aj' c.length cj', .int .i64 0, .int .i64 0, .int .i64 0, .int .i64 0, .int .i64 0, .int .i64 0] 53)) wr.heap.size 53 (taskL k ⟨wr.heap.size, aj', cj'⟩ ⟨c, 0, [0, 0, 0, 0], 0⟩).toArray) := Box.new wr _ _
      have HBA : Hid (BdAt w (wr.alloc (.cells #[.int .i64 (k : Int), .slice aj' c.length cj', .int .i64 0, .int .i64 0, .int .i64 0, .int .i64 0, .int .i64 0, .int .i64 0] 53)) w.heap.size g (begins (code.take k) cs)) := HB.out.alloc _
      go_wp2_with fail
      refine (goTo_lone k ⟨wr.heap.size, aj', cj'⟩ c HBX.out).mono ?_
      rintro _ w3 ⟨rfl, hbox3, hchg3⟩
      have HB3 : Hid (BdAt w w3 w.heap.size g (begins (code.take k) cs)) := by
        have hba := HBA.out
        have hbb := HB.out
        refine hba.same (fun b hb => hchg3.block b (hba.foot_lt hb) (fun e => ?_)) (hba.base.trans (hchg3.below (B := w.heap.size) (fun b e => ?_) hba.base.size))
        · have := hbb.foot_lt hb
          simp only at e
          omega
        · have := hbb.base.size
          simp only at e
          omega
      have HBX3 : Hid (Box w3 wr.heap.size 53 (taskL k ⟨wr.heap.size, aj', cj'⟩ (fresh c)).toArray) := hbox3
      have hlk : (begins (code.take k) cs).ts.length = k := by rw [begins_len]; exact HLT.out
      have b32 : w3.cell? ⟨w.heap.size, 32, none⟩ = some (.slice g.ta k g.tc) := by
        have := (HB3.out.bcell (by have := HCS.out; simp [begins]; omega) (by simp [begins])).2.2.1
        rw [hlk] at this
        exact this
      have hblt3 : w.heap.size < w3.heap.size := tag_lt HB3.out.tagP
      have hq3 : wr.heap.size < w3.heap.size := hbox3.lt
      clear hbox3 hchg3
      have HRW : Hid (World.ownsRow (w3.alloc (.cells #[at_ wr.heap.size] TPT)) w.heap.size TPT 1 (.slice g.ta k g.tc) k (g.gs.map fun x => at_ x.q)) := by
        have := HB3.out.row
        rw [hlk] at this
        exact this.alloc _
      have hnews : ∀ j u, [at_ wr.heap.size][j]? = some u → (w3.alloc (.cells #[at_ wr.heap.size] TPT)).cell? ((⟨w3.heap.size, 0, none⟩ : Addr).add j) = some u := World.news_of_block (cs := #[at_ wr.heap.size]) (Box.new w3 TPT #[at_ wr.heap.size])
      have hone : ∀ u ∈ [at_ wr.heap.size], u.oneCell' = true := by
        intro u hu
        rw [List.mem_singleton.1 hu]
        rfl
      have hbase : w.heap.size ≤ (w3.alloc (.cells #[at_ wr.heap.size] TPT)).heap.size := by simp; omega
      go_wp2_with (first
        | (at_builtin; refine wpList_append_lies _ rfl _ _ 47 rfl w.heap.size TPT j0 _ 1 8 Try.underlying47 hj0 hz0 hz1 hz2 rfl (by decide) _ _ _ rfl HRW.out _ 1 1 [at_ wr.heap.size] rfl rfl hnews hone (by omega) (by unfold maxLen; omega) (by omega) hbase (w3.heap.size + 1) (by simp) ?_))
      intro r4 c4 w4 hr4 hg4 hl4 hlt4
      have hb4 := HB3.out.alloc (.cells #[at_ wr.heap.size] TPT)
      have hbx4 : Box w4 w.heap.size 49 (boardL (begins (code.take k) cs) g).toArray := hb4.box.kept (hg4.block _ (tag_lt hb4.tagP) (fun e => by rw [own_blk] at e; exact tag_ne hb4.tagP (hb4.tagR e.symm) (by decide) rfl))
      have k32 : w4.cell? ⟨w.heap.size, 32, none⟩ = some (.slice g.ta k g.tc) := by
        have e1 := hbx4.cell 32
        have e2 := hb4.box.cell 32
        have e3 := (hb4.bcell (by have := HCS.out; simp [begins]; omega) (by simp [begins])).2.2.1
        rw [hlk] at e3
        rw [e1, ← e2, e3]
      have f32 := hbx4.soft 32
      have H5 : Hid (BdAt w (w4.setCell ⟨w.heap.size, 32, none⟩ (.slice (some ⟨r4, 0, none⟩) (k + 1) c4)) w.heap.size { g with gs := g.gs ++ [⟨wr.heap.size, aj', cj'⟩], ta := some ⟨r4, 0, none⟩, tc := c4 } (begins (code.take (k + 1)) cs)) := by
        unfold Hid
        rw [HTK.out]
        have hwr := HB.out.base.size
        have := hb4.push (c := c) (tg := ⟨wr.heap.size, aj', cj'⟩) (w' := w4) (r := r4) (cap := c4) HCS.out (by rw [HLT.out]; exact HBX3.out.alloc _) hwr (fun j hj => by
          have := tag_lt (HB.out.tagQ (i := j) (by rw [begins_len]; exact hj))
          show g.q j ≠ wr.heap.size
          omega) HIC.out (by rw [HLT.out]; exact hr4) (by rw [HLT.out]; exact hg4) (by
          rw [HLT.out]
          rcases hl4 with e | e
          · exact .inl e
          · exact .inr (by simp; omega))
        rw [HLT.out] at this
        exact this
      clear hr4 hg4 hl4 hlt4 hb4 hbx4
      go_wp2_with fail
      go_roundw
      case rel => exact ⟨k + 1, _, by omega, by go_num, H5⟩
      case measure => simp [intOf]; omega
    · obtain rfl : k = len := by omega
      go_wp2
      go_returns
      have e : code.take k = code := by rw [← HZ.out, List.take_length]
      have h9 := HB.out
      rw [e] at h9
      exact ⟨_, g, rfl, h9⟩
end Go.Proofs.Ytehkcgjiimfdjab
