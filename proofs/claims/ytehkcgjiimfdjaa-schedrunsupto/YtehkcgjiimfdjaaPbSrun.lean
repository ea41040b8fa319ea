/- The contract of do, all instructions; and of run. -/
import Derived.Test.YtehkcgjiimfdjaaAct1
import Derived.Test.YtehkcgjiimfdjaaAct2
import Derived.Test.YtehkcgjiimfdjaaAct3
import Derived.Test.YtehkcgjiimfdjaaAct4
import Derived.Test.YtehkcgjiimfdjaaAct5
import Derived.Test.YtehkcgjiimfdjaaAct6
import Derived.Test.YtehkcgjiimfdjaaAct7
import Derived.Test.YtehkcgjiimfdjaaAct8
import Derived.Test.YtehkcgjiimfdjaaRun5
import Derived.Laws.CopyRow
import Derived.Laws.IdiomCopy
import Derived.Laws.OwnMore
import Derived.Deep.AppendLies
import Derived.Deep.RegionLaw
import Derived.Test.YtehkcgjiimfdjaaChk6
namespace Go.Proofs.Ytehkcgjiimfdjaa
open Go.RowKit
theorem do_at {w0 w : World} {p : Nat} {g : Bg} {B : PB} (h : BdAt w0 w p g B) (hk : B.Ok) {i : Nat} (hi : i < B.ts.length) (hgo : (B.t i).ph = 0 ∨ (B.t i).ph = 2) (hem : B.em.length < 1099511627776) : Calls Try.prog 27 #[at_ p, at_ (g.q i)] w (DoPost w0 w p g (B.act i)) := by
  have hT := hk.tasks i hi
  have hpl := hT.place (by omega)
  obtain ⟨bb, off, D⟩ := DoAt.mk' h hk hi hpl
  have hins := hT.insOk hpl
  rcases hgo with h0 | h2
  · by_cases e1 : (B.t i).ins.op = 1
    · exact do_1 D e1 h0
    by_cases e2 : (B.t i).ins.op = 2
    · exact do_2 D e2 h0
    by_cases e3 : (B.t i).ins.op = 3
    · exact do_3 D e3 h0
    by_cases e4 : (B.t i).ins.op = 4
    · exact do_4 D e4 h0
    by_cases e5 : (B.t i).ins.op = 5
    · exact do_5 D e5 h0
    by_cases e6 : (B.t i).ins.op = 6
    · by_cases hv : (B.t i).get (B.t i).ins.a = 0
      · exact do_6z D e6 h0 hv
      · exact do_6n D e6 h0 hv
    by_cases e7 : (B.t i).ins.op = 7
    · exact do_7 D e7 h0
    by_cases e8 : (B.t i).ins.op = 8
    · exact do_8 D e8 h0
    by_cases e9 : (B.t i).ins.op = 9
    · exact do_9 D e9
    by_cases e10 : (B.t i).ins.op = 10
    · exact do_10a D e10 h0
    by_cases e11 : (B.t i).ins.op = 11
    · exact do_11 D e11 h0
    by_cases e12 : (B.t i).ins.op = 12
    · exact do_12 D e12 h0
    by_cases e13 : (B.t i).ins.op = 13
    · exact do_13 D e13 h0 hem
    have e14 : (B.t i).ins.op = 14 := by
      simp [insOk, e1, e2, e3, e4, e5, e6, e7, e8, e9, e10, e11, e12, e13] at hins
      exact hins
    exact do_14 D e14 h0
  · exact do_10b D (hT.waits (.inr h2)) h2
end Go.Proofs.Ytehkcgjiimfdjaa
/- A task that is not on the board yet; copy of cells onto a new board. -/
namespace Go.Proofs.Ytehkcgjiimfdjaa
open Go.RowKit
set_option maxRecDepth 100000 in
set_option maxHeartbeats 1000000 in
theorem goTo_lone {w : World} (i : Nat) (tg : Tg) (c : List Ins) (h : Box w tg.q 67 (taskL i tg ⟨c, 0, [0, 0, 0, 0], 0⟩).toArray) : Calls Try.prog 25 #[at_ tg.q, .int .i64 0] w fun e w' => e = .returned (.tuple #[]) ∧ Box w' tg.q 67 (taskL i tg (fresh c)).toArray ∧ Chg (fun k => k = tg.q) w w' := by
  have c1 := h.cell 1
  have c2 := h.cell 2
  have c7 := h.cell 7
  have s2 := h.soft 2
  have s7 := h.soft 7
  simp [taskL] at c1 c2 c7
  by_cases hl : c.length = 0
  · have e : fresh c = ⟨c, 0, [0, 0, 0, 0], 3⟩ := by simp [fresh, PTask.goTo, hl]
    have H1 : Hid (Box ((w.setCell ⟨tg.q, 2, none⟩ (.int .i64 0)).setCell ⟨tg.q, 7, none⟩ (.int .i64 3)) tg.q 67 (taskL i tg ⟨c, 0, [0, 0, 0, 0], 3⟩).toArray) := Box.eq ((h.set 2 _).set 7 _) (by simp [taskL])
    rw [hl] at c1
    rw [e]
    clear e
    go_enter Try.func25, Try.ntmps25
    go_wp2
    go_returns
    exact ⟨rfl, H1.out, ((Chg.refl (fun k => k = tg.q) w).set (p := tg.q) (fun _ => rfl) 2 _).set (p := tg.q) (fun _ => rfl) 7 _⟩
  · have e : fresh c = ⟨c, 0, [0, 0, 0, 0], 0⟩ := by simp [fresh, PTask.goTo, Ne.symm hl]
    have H1 : Hid (Box (w.setCell ⟨tg.q, 2, none⟩ (.int .i64 0)) tg.q 67 (taskL i tg ⟨c, 0, [0, 0, 0, 0], 0⟩).toArray) := Box.eq (h.set 2 _) (by simp [taskL])
    have hl' : ((0 : Int) == (c.length : Int)) = false := by simp; omega
    rw [e]
    clear e
    go_enter Try.func25, Try.ntmps25
    go_wp2
    go_returns
    exact ⟨rfl, H1.out, (Chg.refl (fun k => k = tg.q) w).set (p := tg.q) (fun _ => rfl) 2 _⟩
theorem infoInt1 : (Try.prog.info? 3).map (·.size) = some 1 := by kernel_rfl
abbrev zeroBoard : Array Value := #[.int .i64 0, .int .i64 0, .int .i64 0, .int .i64 0, .int .i64 0, .int .i64 0, .int .i64 0, .int .i64 0, .int .i64 0, .int .i64 0, .int .i64 0, .int .i64 0, .int .i64 0, .int .i64 0, .int .i64 0, .int .i64 0, .pointer none, .pointer none, .pointer none, .pointer none, .pointer none, .pointer none, .pointer none, .pointer none, .pointer none, .pointer none, .pointer none, .pointer none, .pointer none, .pointer none, .pointer none, .pointer none, .slice none 0 0, .slice none 0 0, .int .i64 0]
def g00 : Bg := ⟨[], none, 0, none, 0⟩
/-- Cells are copied onto a new board. -/
theorem copy_board (w : World) (ca : Option Addr) (cl cc : Nat) (cs : List Int) (h : IsAt w ca cl cc cs) (hcl : cl ≤ 16) : ∃ W2, (Builtin.copy_ #[24, 24] 3 #[.slice (some ⟨w.heap.size, 0, none⟩) 16 16, .slice ca cl cc]).run Try.prog (w.alloc (.cells zeroBoard 64)) = .ok (.int .i64 (cl : Int)) W2 ∧ BdAt w W2 w.heap.size g00 (begins [] cs) := by
  have hs := h.size
  have mk : ∀ W2, Box W2 w.heap.size 64 (boardL (begins [] cs) g00).toArray → Below w.heap.size w W2 → BdAt w W2 w.heap.size g00 (begins [] cs) := fun W2 hb hB =>
    ⟨hb, rfl, fun i hi => absurd hi (Nat.not_lt_zero _), World.ownsRow_nil _ _ _ 1, World.ownsRow_nil _ _ _ 2, fun i _ hi => absurd hi (Nat.not_lt_zero _), Nat.le_refl _, fun i hi => absurd hi (Nat.not_lt_zero _), hB⟩
  have hA : Below w.heap.size w (w.alloc (.cells zeroBoard 64)) := (Below.refl _ _).alloc (Nat.le_refl _) _
  by_cases h0 : cl = 0
  · refine ⟨_, ?_, mk _ ?_ hA⟩
    · have := run_copy_none (P := Try.prog) (w.alloc (.cells zeroBoard 64)) 24 24 3 3 (some ⟨w.heap.size, 0, none⟩) ca 16 16 cl cc Try.underlying24 infoInt1 (by rw [h0]; rfl)
      rw [this, h0]
      rfl
    · obtain rfl := List.eq_nil_of_length_eq_zero (hs.trans h0)
      exact Box.new w _ zeroBoard
  · obtain ⟨b, off, rfl, hc⟩ := h.here (by omega)
    have hbx := Box.new w 64 zeroBoard
    have hsrc : ∀ j v, (cs.map (Value.int .i64))[j]? = some v → (w.alloc (.cells zeroBoard 64)).cell? ((⟨b, off, none⟩ : Addr).add j) = some v := by
      intro j v hv
      have hj : j < cs.length := by
        have := (List.getElem?_eq_some_iff.1 hv).1
        simpa using this
      rw [Addr.add_lit]
      have hcj := hc j (by omega)
      rw [hA.cell (World.block_lt_of_cell? w _ hcj), hcj]
      rw [List.getElem?_map, List.getElem?_eq_getElem hj] at hv
      simp [List.getD, hj]
      simpa using hv
    have := run_copy_row (P := Try.prog) (w.alloc (.cells zeroBoard 64)) 24 24 3 3 w.heap.size 0 16 16 ⟨b, off, none⟩ cl cc zeroBoard 64 (cs.map (Value.int .i64)) Try.underlying24 infoInt1 hbx (by rw [List.length_map, hs]; exact (Nat.min_eq_left hcl).symm) hsrc (by rw [List.length_map, hs]; show 0 + cl ≤ 35; omega) (by intro v hv; obtain ⟨_, _, rfl⟩ := List.mem_map.1 hv; rfl)
    have eg : goInt (cs.map (Value.int .i64)).length = Value.int .i64 (cl : Int) := by rw [List.length_map, hs]; rfl
    rw [eg] at this
    refine ⟨_, this, mk _ ?_ ?_⟩
    · have h9 := setRow_heap (w.alloc (.cells zeroBoard 64)) w.heap.size zeroBoard (zeroBoard.toList.take 0 ++ cs.map (Value.int .i64) ++ zeroBoard.toList.drop (0 + (cs.map (Value.int .i64)).length)).toArray 64 _ hbx
      refine Box.eq h9 ?_
      congr 1
      have e : zeroBoard.toList = List.replicate 16 (.int .i64 0) ++ (List.replicate 16 (.pointer none) ++ [.slice none 0 0, .slice none 0 0, .int .i64 0]) := rfl
      rw [e, List.take_zero, List.nil_append, Nat.zero_add, List.length_map, List.drop_append_of_le_length (by rw [List.length_replicate, hs]; exact hcl), List.drop_replicate]
      unfold boardL begins
      simp [ownV, g00]
    · exact ⟨rfl, rfl, rfl, by simp, fun k hk => by rw [setRow_other _ _ _ _ (by omega)]; exact hA.block k hk⟩
end Go.Proofs.Ytehkcgjiimfdjaa
/- The contract of begin. -/
namespace Go.Proofs.Ytehkcgjiimfdjaa
open Go.RowKit
theorem begins_len (code : List (List Ins)) (cs : List Int) : (begins code cs).ts.length = code.length := by simp [begins]
theorem begins_t (code : List (List Ins)) (cs : List Int) {i : Nat} (hi : i < code.length) : (begins code cs).t i = fresh (code.getD i []) := by simp [begins, PB.t, List.getD, hi]
theorem fresh_code (c : List Ins) : (fresh c).code = c := by simp [fresh, PTask.goTo]
/-- One task more on a board on which nothing was done. -/
theorem BdAt.push {w0 w w' : World} {p : Nat} {g : Bg} {l : List (List Ins)} {cs : List Int} (h : BdAt w0 w p g (begins l cs)) (hcs : cs.length ≤ 16) {c : List Ins} {tg : Tg} (hbox : Box w tg.q 67 (taskL l.length tg (fresh c)).toArray) (hq : w0.heap.size ≤ tg.q) (hnew : ∀ j, j < l.length → g.q j ≠ tg.q) (hcode : IcAt w0 tg.ca c.length tg.cc c) {r cap : Nat}
    (hrow : w'.ownsRow w0.heap.size TPT 1 (.slice (some ⟨r, 0, none⟩) (l.length + 1) cap) (l.length + 1) ((g.gs.map fun x => at_ x.q) ++ [at_ tg.q])) (hg : w.grownBy w' (Value.slice g.ta l.length g.tc).ownBlock) (hr : (Value.slice g.ta l.length g.tc).ownBlock = some r ∨ w.heap.size ≤ r) :
    BdAt w0 (w'.setCell ⟨p, 32, none⟩ (.slice (some ⟨r, 0, none⟩) (l.length + 1) cap)) p { g with gs := g.gs ++ [tg], ta := some ⟨r, 0, none⟩, tc := cap } (begins (l ++ [c]) cs) := by
  have hlen : (begins l cs).ts.length = l.length := begins_len l cs
  have hlen' : (begins (l ++ [c]) cs).ts.length = l.length + 1 := by rw [begins_len]; simp
  rw [own_blk] at hg hr
  have hkeep : ∀ k t, tag w k = some t → t ≠ TPT → w'.heap[k]? = w.heap[k]? := fun k t ht hne => hg.block k (tag_lt ht) (fun e => tag_ne ht (h.tagR e.symm) hne rfl)
  have hcnt : g.gs.length = l.length := h.count.trans hlen
  have hgq : ∀ j, j < l.length → ({ g with gs := g.gs ++ [tg], ta := some ⟨r, 0, none⟩, tc := cap } : Bg).q j = g.q j := fun j hj => by
    show ((g.gs ++ [tg]).getD j tg0).q = (g.gs.getD j tg0).q
    simp [List.getD, List.getElem?_append_left (show j < g.gs.length by omega)]
  have hgn : (g.gs ++ [tg]).getD l.length tg0 = tg := by simp [List.getD, ← hcnt]
  have hgo : ∀ j, j < l.length → (g.gs ++ [tg]).getD j tg0 = g.gs.getD j tg0 := fun j hj => by simp [List.getD, List.getElem?_append_left (show j < g.gs.length by omega)]
  have hpt : ∀ t k, tag w k = some t → t ≠ 64 → k ≠ p := fun t k ht hne => tag_ne ht h.tagP hne
  have hrp : r ≠ p := by
    rcases hr with e | e
    · exact hpt _ _ (h.tagR e) (by decide)
    · have := tag_lt h.tagP; omega
  have hbase' : Below w0.heap.size w0 w' := h.base.grown hg h.base.size (fun k e => (h.row.lt k (by rw [own_blk]; exact e)).1)
  refine ⟨?_, ?_, fun j hj => ?_, ?_, ?_, fun i j hi hj e => ?_, h.hp, fun j hj => ?_, hbase'.setCell h.hp _⟩
  · refine Box.eq ((h.box.kept (hkeep p _ h.tagP (by decide))).set 32 _) ?_
    rw [setArr]
    congr 1
    have lc : ((begins l cs).cells.map (Value.int .i64)).length = 16 := by simp [begins]; omega
    have lo : ((begins l cs).own.map (ownV g.gs)).length = 16 := by simp [begins]
    unfold boardL
    rw [List.set_append, if_neg (by rw [lc]; omega), lc, List.set_append, if_neg (by rw [lo]; omega), lo, hlen', hlen]
    simp [begins, ownV]
  · rw [hlen']
    simp [hcnt]
  · rw [hlen'] at hj
    by_cases e : j = l.length
    · subst e
      have et : (begins (l ++ [c]) cs).t l.length = fresh c := by rw [begins_t _ _ (by simp)]; simp [List.getD]
      show TaskAt w0 _ l.length ((g.gs ++ [tg]).getD l.length tg0) _
      rw [et, hgn]
      refine ⟨(hbox.kept (hkeep _ _ hbox.tag (by decide))).other (hpt _ _ hbox.tag (by decide)) _ _, ?_⟩
      rw [fresh_code]
      exact hcode
    · have hj' : j < l.length := by omega
      have hT := h.tasks j (by rw [hlen]; exact hj')
      have et : (begins (l ++ [c]) cs).t j = (begins l cs).t j := by
        rw [begins_t _ _ (by simp; omega), begins_t _ _ hj']
        simp [List.getD, List.getElem?_append_left hj']
      show TaskAt w0 _ j ((g.gs ++ [tg]).getD j tg0) _
      rw [et, hgo j hj']
      exact ⟨(hT.box.kept (hkeep _ _ hT.box.tag (by decide))).other (hpt _ _ hT.box.tag (by decide)) _ _, hT.code⟩
  · rw [hlen']
    show World.ownsRow _ _ _ _ _ _ ((g.gs ++ [tg]).map _)
    rw [List.map_append]
    refine row_same hrow fun b e => Below.heap_setCell _ _ _ _ ?_
    cases e
    exact hrp
  · refine row_same h.emits fun b e => ?_
    rw [own_blk] at e
    rw [Below.heap_setCell _ _ _ _ (hpt _ _ (h.tagE e) (by decide)), hkeep _ _ (h.tagE e) (by decide)]
  · rw [hlen'] at hi hj
    have hqn : ({ g with gs := g.gs ++ [tg], ta := some ⟨r, 0, none⟩, tc := cap } : Bg).q l.length = tg.q := by show ((g.gs ++ [tg]).getD l.length tg0).q = tg.q; rw [hgn]
    by_cases hi' : i < l.length
    · by_cases hj' : j < l.length
      · rw [hgq i hi', hgq j hj'] at e
        exact h.apart i j (by rw [hlen]; exact hi') (by rw [hlen]; exact hj') e
      · obtain rfl : j = l.length := by omega
        rw [hgq i hi', hqn] at e
        exact absurd e (hnew i hi')
    · obtain rfl : i = l.length := by omega
      by_cases hj' : j < l.length
      · rw [hgq j hj', hqn] at e
        exact absurd e.symm (hnew j hj')
      · omega
  · rw [hlen'] at hj
    by_cases hj' : j < l.length
    · rw [hgq j hj']
      exact h.hq j (by rw [hlen]; exact hj')
    · obtain rfl : j = l.length := by omega
      show w0.heap.size ≤ ((g.gs ++ [tg]).getD l.length tg0).q
      rw [hgn]
      exact hq
set_option maxRecDepth 100000 in
set_option maxHeartbeats 1000000 in
theorem begin_at {w : World} (a : Option Addr) (len cap : Nat) (code : List (List Ins)) (ca : Option Addr) (cl cc : Nat) (cs : List Int) (h : CdAt w a len cap code) (hc : IsAt w ca cl cc cs) (hok : allOk code cs = true) : Calls Try.prog 15 #[.slice a len cap, .slice ca cl cc] w fun e w' => ∃ p g, e = .returned (at_ p) ∧ BdAt w w' p g (begins code cs) := by
  have HC : Hid (CdAt w a len cap code) := h
  have h1 := h.le
  have h2 := h.max
  have h3 := hc.le
  have h4 := hc.max
  have HZ : Hid (code.length = len) := h.size
  unfold maxLen at h2 h4
  have hoks : len ≤ 8 ∧ cl ≤ 16 := by
    simp [allOk] at hok
    have := hc.size
    have := h.size
    omega
  have hlen := hoks.1
  have HCS : Hid (cs.length ≤ 16) := by unfold Hid; rw [hc.size]; exact hoks.2
  obtain ⟨W2, hcopy, hb2⟩ := copy_board w ca cl cc cs hc hoks.2
  have HB2 : Hid (BdAt w W2 w.heap.size g00 (begins [] cs)) := hb2
  obtain ⟨j0, hj0, hz0, hz1, hz2⟩ := info_parts infoPtr
  clear h hc hoks hb2
  go_enter Try.func15, Try.ntmps15
  go_wp2_with fail
  go_loopw [19] (fun i wr => ∃ (k : Nat) (g : Bg), k ≤ len ∧ i = .int .i64 (k : Int) ∧ Hid (BdAt w wr w.heap.size g (begins (code.take k) cs))) (fun i _ => len - (intOf i).toNat)
  case atStart => exact ⟨0, g00, Nat.zero_le _, rfl, HB2⟩
  case round =>
    obtain ⟨k, g, hkl, rfl, HB⟩ := hrel
    clear hcopy HB2
    by_cases hlt : k < len
    · have hlt' : k < code.length := by rw [HZ.out]; exact hlt
      obtain ⟨b, off, hla, hlc⟩ := (HC.out.below (Nat.le_refl _) HB.out.base).here (by omega)
      obtain ⟨aj, cj, x0, _⟩ := hlc k hlt
      obtain ⟨b', off', hla', hlc'⟩ := HC.out.here (by omega)
      obtain ⟨aj', cj', x0', hI⟩ := hlc' k hlt
      have hsame : aj' = aj ∧ cj' = cj := by
        rw [hla] at hla'
        simp only [Option.some.injEq, Addr.mk.injEq, and_true] at hla'
        obtain ⟨rfl, rfl⟩ := hla'
        rw [HB.out.base.cell (World.block_lt_of_cell? w _ x0'), x0'] at x0
        simp at x0
        exact x0
      obtain ⟨rfl, rfl⟩ := hsame
      clear hlc hlc' hla' x0'
      rw [hla]
      have HTK : Hid (code.take (k + 1) = code.take k ++ [code.getD k []]) := by
        unfold Hid
        rw [List.take_add_one, List.getElem?_eq_getElem hlt']
        simp [List.getD, hlt']
      have HLT : Hid ((code.take k).length = k) := by unfold Hid; simp; omega
      obtain ⟨c, HCC⟩ : ∃ c, Hid (c = code.getD k []) := ⟨_, rfl⟩
      have HIC : Hid (IcAt w aj' c.length cj' c) := by unfold Hid; rw [HCC.out]; exact hI
      rw [← HCC.out] at x0 HTK
      clear hI
      have hx1 : (0 : Int) ≤ (k : Int) := by omega
      have hx2 : (k : Int) < (len : Int) := by omega
      have HBX : Hid (Box (wr.alloc (.cells #[.int .i64 (k : Int), .slice aj' c.length cj', .int .i64 0, .int .i64 0, .int .i64 0, .int .i64 0, .int .i64 0, .int .i64 0] 67)) wr.heap.size 67 (taskL k ⟨wr.heap.size, aj', cj'⟩ ⟨c, 0, [0, 0, 0, 0], 0⟩).toArray) := Box.new wr _ _
      have HBA : Hid (BdAt w (wr.alloc (.cells #[.int .i64 (k : Int), .slice aj' c.length cj', .int .i64 0, .int .i64 0, .int .i64 0, .int .i64 0, .int .i64 0, .int .i64 0] 67)) w.heap.size g (begins (code.take k) cs)) := HB.out.alloc _
      go_wp2_with fail
      refine (goTo_lone k ⟨wr.heap.size, aj', cj'⟩ c HBX.out).mono ?_
      rintro _ w3 ⟨rfl, hbox3, hchg3⟩
      have HB3 : Hid (BdAt w w3 w.heap.size g (begins (code.take k) cs)) := by
        have hba := HBA.out
        have hbb := HB.out
        refine hba.same (fun b hb => hchg3.block b (hba.foot_lt hb) (fun e => ?_)) (hba.base.trans (hchg3.below (B := w.heap.size) (fun b e => ?_) hba.base.size))
        · have := hbb.foot_lt hb
          simp only at e
          omega
        · have := hbb.base.size
          simp only at e
          omega
      have HBX3 : Hid (Box w3 wr.heap.size 67 (taskL k ⟨wr.heap.size, aj', cj'⟩ (fresh c)).toArray) := hbox3
      have hlk : (begins (code.take k) cs).ts.length = k := by rw [begins_len]; exact HLT.out
      have b32 : w3.cell? ⟨w.heap.size, 32, none⟩ = some (.slice g.ta k g.tc) := by
        have := (HB3.out.bcell (by have := HCS.out; simp [begins]; omega) (by simp [begins])).2.2.1
        rw [hlk] at this
        exact this
      have hblt3 : w.heap.size < w3.heap.size := tag_lt HB3.out.tagP
      have hq3 : wr.heap.size < w3.heap.size := hbox3.lt
      clear hbox3 hchg3
      have HRW : Hid (World.ownsRow (w3.alloc (.cells #[at_ wr.heap.size] TPT)) w.heap.size TPT 1 (.slice g.ta k g.tc) k (g.gs.map fun x => at_ x.q)) := by
        have := HB3.out.row
        rw [hlk] at this
        exact this.alloc _
      have hnews : ∀ j u, [at_ wr.heap.size][j]? = some u → (w3.alloc (.cells #[at_ wr.heap.size] TPT)).cell? ((⟨w3.heap.size, 0, none⟩ : Addr).add j) = some u := World.news_of_block (cs := #[at_ wr.heap.size]) (Box.new w3 TPT #[at_ wr.heap.size])
      have hone : ∀ u ∈ [at_ wr.heap.size], u.oneCell' = true := by
        intro u hu
        rw [List.mem_singleton.1 hu]
        rfl
      have hbase : w.heap.size ≤ (w3.alloc (.cells #[at_ wr.heap.size] TPT)).heap.size := by simp; omega
      go_wp2_with (first
        | (at_builtin; refine wpList_append_lies _ rfl _ _ 62 rfl w.heap.size TPT j0 _ 1 8 Try.underlying62 hj0 hz0 hz1 hz2 rfl (by decide) _ _ _ rfl HRW.out _ 1 1 [at_ wr.heap.size] rfl rfl hnews hone (by omega) (by unfold maxLen; omega) (by omega) hbase (w3.heap.size + 1) (by simp) ?_))
      intro r4 c4 w4 hr4 hg4 hl4 hlt4
      have hb4 := HB3.out.alloc (.cells #[at_ wr.heap.size] TPT)
      have hbx4 : Box w4 w.heap.size 64 (boardL (begins (code.take k) cs) g).toArray := hb4.box.kept (hg4.block _ (tag_lt hb4.tagP) (fun e => by rw [own_blk] at e; exact tag_ne hb4.tagP (hb4.tagR e.symm) (by decide) rfl))
      have k32 : w4.cell? ⟨w.heap.size, 32, none⟩ = some (.slice g.ta k g.tc) := by
        have e1 := hbx4.cell 32
        have e2 := hb4.box.cell 32
        have e3 := (hb4.bcell (by have := HCS.out; simp [begins]; omega) (by simp [begins])).2.2.1
        rw [hlk] at e3
        rw [e1, ← e2, e3]
      have f32 := hbx4.soft 32
      have H5 : Hid (BdAt w (w4.setCell ⟨w.heap.size, 32, none⟩ (.slice (some ⟨r4, 0, none⟩) (k + 1) c4)) w.heap.size { g with gs := g.gs ++ [⟨wr.heap.size, aj', cj'⟩], ta := some ⟨r4, 0, none⟩, tc := c4 } (begins (code.take (k + 1)) cs)) := by
        unfold Hid
        rw [HTK.out]
        have hwr := HB.out.base.size
        have := hb4.push (c := c) (tg := ⟨wr.heap.size, aj', cj'⟩) (w' := w4) (r := r4) (cap := c4) HCS.out (by rw [HLT.out]; exact HBX3.out.alloc _) hwr (fun j hj => by
          have := tag_lt (HB.out.tagQ (i := j) (by rw [begins_len]; exact hj))
          show g.q j ≠ wr.heap.size
          omega) HIC.out (by rw [HLT.out]; exact hr4) (by rw [HLT.out]; exact hg4) (by
          rw [HLT.out]
          rcases hl4 with e | e
          · exact .inl e
          · exact .inr (by simp; omega))
        rw [HLT.out] at this
        exact this
      clear hr4 hg4 hl4 hlt4 hb4 hbx4
      go_wp2_with fail
      go_roundw
      case rel => exact ⟨k + 1, _, by omega, by go_num, H5⟩
      case measure => simp [intOf]; omega
    · obtain rfl : k = len := by omega
      go_wp2
      go_returns
      have e : code.take k = code := by rw [← HZ.out, List.take_length]
      have h9 := HB.out
      rw [e] at h9
      exact ⟨_, g, rfl, h9⟩
end Go.Proofs.Ytehkcgjiimfdjaa
/- The contract of outcome. -/
namespace Go.Proofs.Ytehkcgjiimfdjaa
open Go.RowKit
theorem infoInt : (Try.prog.info? 3).map (fun i => (i.zero, i.size, i.bytes)) = some (some (.int .i64 0), 1, 8) := by kernel_rfl
abbrev zeros16 : Array Value := #[.int .i64 0, .int .i64 0, .int .i64 0, .int .i64 0, .int .i64 0, .int .i64 0, .int .i64 0, .int .i64 0, .int .i64 0, .int .i64 0, .int .i64 0, .int .i64 0, .int .i64 0, .int .i64 0, .int .i64 0, .int .i64 0]
theorem make_16 (W : World) : (Instr.makeSlice 24 (.int .i64 16) (.int .i64 16)).run Try.prog W = .ok (.slice (some ⟨W.heap.size, 0, none⟩) 16 16) (W.alloc (.cells zeros16 3)) := by
  obtain ⟨i, hi, hz0, hz1, hz2⟩ := info_parts infoInt
  have := run_make (P := Try.prog) W _ _ i (.int .i64 0) Try.underlying24 hi hz0 .i64 .i64 16 16 (by omega) (by omega) (by rw [hz2]; omega) (by omega)
  rw [this, hz1]
  have e : madeCells (Value.int .i64 0).cells (Int.toNat 16 * 1) = zeros16 := by
    apply Array.toList_inj.1
    rw [show Int.toNat 16 * 1 = 16 from rfl, show (Value.int .i64 0).cells = #[.int .i64 0] from rfl, toList_madeCells_one]
    rfl
  rw [e]
  rfl
theorem copy_out {w0 W : World} {p : Nat} {g : Bg} {B : PB} (h : BdAt w0 W p g B) (hk : B.Ok) {qc : Nat} (hq : Box W qc 3 zeros16) : ∃ W2, (Builtin.copy_ #[24, 24] 3 #[.slice (some ⟨qc, 0, none⟩) 16 16, .slice (some ⟨p, 0, none⟩) 16 16]).run Try.prog W = .ok (.int .i64 16) W2 ∧ Box W2 qc 3 (B.cells.map (Value.int .i64)).toArray ∧ Chg (fun k => k = qc) W W2 := by
  have hsrc : ∀ j v, (B.cells.map (Value.int .i64))[j]? = some v → W.cell? ((⟨p, 0, none⟩ : Addr).add j) = some v := by
    intro j v hv
    have hj : j < B.cells.length := by
      have := (List.getElem?_eq_some_iff.1 hv).1
      simpa using this
    rw [Addr.add_lit, Nat.zero_add, (h.bcell hk.cells hk.own).1 j (by rw [← hk.cells]; exact hj)]
    rw [List.getElem?_map, List.getElem?_eq_getElem hj] at hv
    simp [List.getD, hj]
    simpa using hv
  have hcl := hk.cells
  have := run_copy_row (P := Try.prog) W 24 24 3 3 qc 0 16 16 ⟨p, 0, none⟩ 16 16 zeros16 3 (B.cells.map (Value.int .i64)) Try.underlying24 infoInt1 hq (by rw [List.length_map, hcl]; rfl) hsrc (by rw [List.length_map, hcl]; show 0 + 16 ≤ 16; omega) (by intro v hv; obtain ⟨_, _, rfl⟩ := List.mem_map.1 hv; rfl)
  have eg : goInt (B.cells.map (Value.int .i64)).length = Value.int .i64 16 := by rw [List.length_map, hcl]; rfl
  rw [eg] at this
  refine ⟨_, this, ?_, ⟨rfl, rfl, rfl, by simp, fun k hk' hn => setRow_other _ _ _ _ hn⟩⟩
  refine Box.eq (setRow_heap W qc zeros16 _ 3 _ hq) ?_
  congr 1
  rw [List.take_zero, List.nil_append, Nat.zero_add, List.drop_eq_nil_of_le (by rw [List.length_map, hcl]; exact Nat.le_refl _), List.append_nil]
/-- What the walk of outcome holds. -/
structure OutAt (w0 w W : World) (p : Nat) (g : Bg) (B : PB) (qo qc : Nat) (cs : Array Value) (st : Value) (n : Nat) (l : List Value) : Prop where
  bd : BdAt w0 W p g B
  out : Box W qo 27 #[.slice (some ⟨qc, 0, none⟩) 16 16, .slice g.ea B.em.length g.ec, st, .int .i64 (B.steps : Int)]
  cells : Box W qc 3 cs
  states : W.ownsRow w.heap.size 3 1 st n l
  base : Below w.heap.size w W
  no : w.heap.size < qo
  res : Box W w.heap.size 27 #[.slice none 0 0, .slice none 0 0, .slice none 0 0, .int .i64 0]
  nc : w.heap.size ≤ qc
  ne : ∀ b, st.ownBlock = some b → b ≠ qc
theorem OutAt.below {w0 w W W' : World} {p : Nat} {g : Bg} {B : PB} {qo qc : Nat} {cs : Array Value} {st : Value} {n : Nat} {l : List Value} (h : OutAt w0 w W p g B qo qc cs st n l) (hb : Below W.heap.size W W') : OutAt w0 w W' p g B qo qc cs st n l :=
  ⟨h.bd.below hb, h.out.kept (hb.block _ h.out.lt), h.cells.kept (hb.block _ h.cells.lt), row_same h.states fun b e => hb.block b (h.states.lt b e).2, h.base.trans (hb.mono h.base.size), h.no, h.res.kept (hb.block _ h.res.lt), h.nc, h.ne⟩
theorem OutAt.push {w0 w W W' : World} {p : Nat} {g : Bg} {B : PB} {qo qc : Nat} {cs : Array Value} {sa : Option Addr} {n sc : Nat} {l : List Value} (h : OutAt w0 w W p g B qo qc cs (.slice sa n sc) n l) (hw : w0.heap.size ≤ w.heap.size) (hft : ∀ k, (k = p ∨ (∃ i, i < B.ts.length ∧ k = g.q i) ∨ blkOf g.ta = some k ∨ blkOf g.ea = some k) → k < w.heap.size) {x : Value} {r c : Nat}
    (hr : W'.ownsRow w.heap.size 3 1 (.slice (some ⟨r, 0, none⟩) (n + 1) c) (n + 1) (l ++ [x])) (hg : W.grownBy W' (Value.slice sa n sc).ownBlock) (hrn : (Value.slice sa n sc).ownBlock = some r ∨ W.heap.size ≤ r) :
    OutAt w0 w (W'.setCell ⟨qo, 2, none⟩ (.slice (some ⟨r, 0, none⟩) (n + 1) c)) p g B qo qc cs (.slice (some ⟨r, 0, none⟩) (n + 1) c) (n + 1) (l ++ [x]) := by
  have hlow : ∀ k, k < w.heap.size → W'.heap[k]? = W.heap[k]? := fun k hk => hg.block k (Nat.lt_of_lt_of_le hk h.base.size) (fun e => by have := (h.states.lt k e.symm).1; omega)
  have hrun : ∀ k, tag W k = some 27 → W'.heap[k]? = W.heap[k]? := fun k ht => hg.block k (tag_lt ht) (fun e => tag_ne ht (row_tag h.states e.symm) (by decide) rfl)
  have hro : r ≠ qo := by
    rcases hrn with e | e
    · exact tag_ne (row_tag h.states e) h.out.tag (by decide)
    · have := h.out.lt; omega
  have hno := h.no
  refine ⟨h.bd.same (fun k hk => ?_) ?_, ?_, ?_, ?_, ?_, h.no, ?_, h.nc, ?_⟩
  · have := hft k hk
    rw [Below.heap_setCell _ _ _ _ (by simp only; omega)]
    exact hlow k this
  · exact Below.setCell (h.bd.base.grown hg h.bd.base.size (fun k e => by have := (h.states.lt k e).1; omega)) (by simp only; omega) _
  · refine Box.eq ((h.out.kept (hrun _ h.out.tag)).set 2 _) ?_
    simp
  · refine (h.cells.kept (hg.block _ h.cells.lt (fun e => h.ne _ e.symm rfl))).other (tag_ne h.cells.tag h.out.tag (by decide)) _ _
  · exact row_same hr fun b e => Below.heap_setCell _ _ _ _ (by cases e; exact hro)
  · exact Below.setCell (h.base.grown hg h.base.size (fun k e => (h.states.lt k e).1)) (by simp only; omega) _
  · exact (h.res.kept (hrun _ h.res.tag)).other (by omega) _ _
  · intro b e
    obtain rfl : r = b := Option.some.inj e
    rcases hrn with e | e
    · exact h.ne _ e
    · have := h.cells.lt; omega
/-- A call of a Go function, as one step of a region that draws its order. -/
theorem step_calls {ops : Array Oper} {o : Oper} {a : Act} {w : World} {K : Act → World → Prop} {Q : Exit → Act → World → Prop} {E : Prop} (hgd : o.guard = none) {f : FuncId} {fn : Func} (hf : Try.prog.funcs[f]? = some fn) (hname : (fn.name == "runtime.NumGoroutine") = false) (hb : fn.body.isSome = true) {x y : Operand} {t u : TypeId}
    (ho : o.op = .call { callee := .value (.func f), args := #[x, y], argTypes := #[t, u] }) {va vb : Value} (hx : a.eval x = va) (hy : a.eval y = vb) {R : Value → World → Prop} (hc : Calls Try.prog f #[va, vb] w fun e w' => ∃ v, e = .returned v ∧ R v w')
    (hK : ∀ v w', R v w' → K (a.put o.dst v) w') : if Region.wanted o (yielded ops a.tmps) = true then Oper.wp Try.prog o a w K Q else E := by
  have hw : Region.wanted o (yielded ops a.tmps) = true := by simp [Region.wanted, hgd]
  rw [if_pos hw]
  unfold Oper.wp
  obtain ⟨dst, op, ty, pos, after, guard⟩ := o
  simp only at ho
  subst ho
  rw [execOp_call_go]
  have hargs : (#[] ++ #[x, y].map a.eval ++ #[] : Array Value) = #[va, vb] := by simp [hx, hy]
  rw [hargs]
  obtain ⟨c, hc'⟩ := Option.isSome_iff_exists.1 hb
  have hname' : fn.name ≠ "runtime.NumGoroutine" := by simpa using hname
  have hrun : (callFunc f #[va, vb]).run Try.prog w = .ok (.enter f #[va, vb]) w := by
    simp [callFunc, hf, hname', hc']
  rw [hrun, Oper.upon_enter]
  refine hc.mono ?_
  rintro e w' ⟨v, rfl, hr⟩
  exact hK v w' hr
set_option maxRecDepth 100000 in
set_option maxHeartbeats 1000000 in
theorem outcome_at {w0 w : World} {p : Nat} {g : Bg} {B : PB} (h : BdAt w0 w p g B) (hk : B.Ok) : Calls Try.prog 17 #[at_ p] w fun e w' => ∃ qc sa sc, e = .returned (.agg #[.slice (some ⟨qc, 0, none⟩) 16 16, .slice g.ea B.em.length g.ec, .slice sa B.ts.length sc, .int .i64 (B.steps : Int)]) ∧ Box w' qc 3 (B.cells.map (Value.int .i64)).toArray ∧ w'.ownsRow w0.heap.size 3 1 (.slice sa B.ts.length sc) B.ts.length (B.states.map (Value.int .i64)) ∧ w'.ownsRow w0.heap.size 34 2 (.slice g.ea B.em.length g.ec) B.em.length (cellsE B.em) ∧ Below w0.heap.size w0 w' := by
  obtain ⟨b0, b1, b2, b3, b4⟩ := h.bcell hk.cells hk.own
  clear b0 b1
  obtain ⟨n, HN⟩ : ∃ n, Hid (n = B.ts.length) := ⟨_, rfl⟩
  rw [← HN.out]
  have hplt := tag_lt h.tagP
  have hmake := make_16
  obtain ⟨j0, hj0, hz0, hz1, hz2⟩ := info_parts infoInt
  have hp1 : p < w.heap.size + 1 := by omega
  have hp2 : p < w.heap.size + 1 + 1 := by omega
  have hp3 : p < w.heap.size + 1 + 1 + 1 := by omega
  have HA : Hid (∀ (_ : Value), OutAt w0 w (((w.alloc (.cells #[.slice none 0 0, .slice none 0 0, .slice none 0 0, .int .i64 0] 27)).alloc (.cells #[.slice (some ⟨w.heap.size + 1 + 1, 0, none⟩) 16 16, .slice g.ea B.em.length g.ec, .slice none 0 0, .int .i64 (B.steps : Int)] 27)).alloc (.cells zeros16 3)).drew p g B (w.heap.size + 1) (w.heap.size + 1 + 1) zeros16 (.slice none 0 0) 0 []) := by
    intro sl
    have x0 := Box.new w 27 #[.slice none 0 0, .slice none 0 0, .slice none 0 0, .int .i64 0]
    have e1 : (w.alloc (.cells #[.slice none 0 0, .slice none 0 0, .slice none 0 0, .int .i64 0] 27)).heap.size = w.heap.size + 1 := by simp
    have x1 := Box.new (w.alloc (.cells #[.slice none 0 0, .slice none 0 0, .slice none 0 0, .int .i64 0] 27)) 27 #[.slice (some ⟨w.heap.size + 1 + 1, 0, none⟩) 16 16, .slice g.ea B.em.length g.ec, .slice none 0 0, .int .i64 (B.steps : Int)]
    have x2 := Box.new ((w.alloc (.cells #[.slice none 0 0, .slice none 0 0, .slice none 0 0, .int .i64 0] 27)).alloc (.cells #[.slice (some ⟨w.heap.size + 1 + 1, 0, none⟩) 16 16, .slice g.ea B.em.length g.ec, .slice none 0 0, .int .i64 (B.steps : Int)] 27)) 3 zeros16
    rw [e1] at x1
    rw [show ((w.alloc (.cells #[.slice none 0 0, .slice none 0 0, .slice none 0 0, .int .i64 0] 27)).alloc (.cells #[.slice (some ⟨w.heap.size + 1 + 1, 0, none⟩) 16 16, .slice g.ea B.em.length g.ec, .slice none 0 0, .int .i64 (B.steps : Int)] 27)).heap.size = w.heap.size + 1 + 1 by simp] at x2
    exact ⟨(((h.alloc _).alloc _).alloc _).drew, x1.alloc _, x2, World.ownsRow_nil _ _ _ 1, ((((Below.refl _ _).alloc (Nat.le_refl _) _).alloc (by simp) _).alloc (by simp; omega) _).drew, by omega, (x0.alloc _).alloc _, by omega, fun b e => by cases e⟩
  have HZ : Hid (∀ (_ : Value), OutAt w0 w (((w.alloc (.cells #[.slice none 0 0, .slice none 0 0, .slice none 0 0, .int .i64 0] 27)).alloc (.cells zeros16 3)).alloc (.cells #[.slice (some ⟨w.heap.size + 1, 0, none⟩) 16 16, .slice g.ea B.em.length g.ec, .slice none 0 0, .int .i64 (B.steps : Int)] 27)).drew p g B (w.heap.size + 1 + 1) (w.heap.size + 1) zeros16 (.slice none 0 0) 0 []) := by
    intro sl
    have x0 := Box.new w 27 #[.slice none 0 0, .slice none 0 0, .slice none 0 0, .int .i64 0]
    have e1 : (w.alloc (.cells #[.slice none 0 0, .slice none 0 0, .slice none 0 0, .int .i64 0] 27)).heap.size = w.heap.size + 1 := by simp
    have x1 := Box.new (w.alloc (.cells #[.slice none 0 0, .slice none 0 0, .slice none 0 0, .int .i64 0] 27)) 3 zeros16
    have x2 := Box.new ((w.alloc (.cells #[.slice none 0 0, .slice none 0 0, .slice none 0 0, .int .i64 0] 27)).alloc (.cells zeros16 3)) 27 #[.slice (some ⟨w.heap.size + 1, 0, none⟩) 16 16, .slice g.ea B.em.length g.ec, .slice none 0 0, .int .i64 (B.steps : Int)]
    rw [e1] at x1
    rw [show ((w.alloc (.cells #[.slice none 0 0, .slice none 0 0, .slice none 0 0, .int .i64 0] 27)).alloc (.cells zeros16 3)).heap.size = w.heap.size + 1 + 1 by simp] at x2
    exact ⟨(((h.alloc _).alloc _).alloc _).drew, x2, x1.alloc _, World.ownsRow_nil _ _ _ 1, ((((Below.refl _ _).alloc (Nat.le_refl _) _).alloc (by simp) _).alloc (by simp; omega) _).drew, by omega, (x0.alloc _).alloc _, by omega, fun b e => by cases e⟩
  go_enter Try.func17, Try.ntmps17
  go_wp2_with fail
  go_region
  case' _ =>
    have HO := HZ.out (.slice none 0 0)
    clear HA HZ hp1 hp2 hp3 hmake b2 b3 b4
    generalize (((w.alloc (.cells #[.slice none 0 0, .slice none 0 0, .slice none 0 0, .int .i64 0] 27)).alloc (.cells zeros16 3)).alloc (.cells #[.slice (some ⟨w.heap.size + 1, 0, none⟩) 16 16, .slice g.ea B.em.length g.ec, .slice none 0 0, .int .i64 (B.steps : Int)] 27)).drew = W at HO ⊢
    generalize w.heap.size + 1 + 1 = qo at HO ⊢
    generalize w.heap.size + 1 = qc at HO ⊢
  rotate_left
  case' _ =>
    have HO := HA.out (.slice none 0 0)
    clear HA HZ hp1 hp2 hp3 hmake b2 b3 b4
    generalize (((w.alloc (.cells #[.slice none 0 0, .slice none 0 0, .slice none 0 0, .int .i64 0] 27)).alloc (.cells #[.slice (some ⟨w.heap.size + 1 + 1, 0, none⟩) 16 16, .slice g.ea B.em.length g.ec, .slice none 0 0, .int .i64 (B.steps : Int)] 27)).alloc (.cells zeros16 3)).drew = W at HO ⊢
    generalize w.heap.size + 1 + 1 = qc at HO ⊢
    generalize w.heap.size + 1 = qo at HO ⊢
  all_goals
    obtain ⟨W2, hcopy, hc2, hch2⟩ := copy_out HO.bd.drew hk (qc := qc) HO.cells
    have HFT : Hid (∀ k, (k = p ∨ (∃ i, i < B.ts.length ∧ k = g.q i) ∨ blkOf g.ta = some k ∨ blkOf g.ea = some k) → k < w.heap.size) := fun k hk' => h.foot_lt hk'
    have HB0 : Hid (w0.heap.size ≤ w.heap.size) := h.base.size
    have o0 := HO.out.cell 0
    have o2 := HO.out.cell 2
    simp at o0 o2
    have HO1 : Hid (OutAt w0 w W2 p g B qo qc (B.cells.map (Value.int .i64)).toArray (.slice none 0 0) 0 []) := by
      have htq := HO.cells.tag
      refine ⟨HO.bd.same (fun k hk' => hch2.block k (HO.bd.foot_lt hk') (fun e => ?_)) (HO.bd.base.drew.trans (hch2.below (B := w0.heap.size) (fun k e => ?_) HO.bd.base.size)), HO.out.kept (hch2.block _ HO.out.lt (tag_ne HO.out.tag htq (by decide))), hc2, World.ownsRow_nil _ _ _ 1, HO.base.drew.trans (hch2.below (B := w.heap.size) (fun k e => by rw [e]; exact HO.nc) HO.base.size), HO.no, HO.res.kept (hch2.block _ HO.res.lt (tag_ne HO.res.tag htq (by decide))), HO.nc, fun b e => by cases e⟩
      · subst e
        rcases hk' with e | ⟨i, hi, e⟩ | e | e
        · exact tag_ne htq HO.bd.tagP (by decide) e
        · exact tag_ne htq (HO.bd.tagQ hi) (by decide) e
        · exact tag_ne htq (HO.bd.tagR e) (by decide) rfl
        · exact tag_ne htq (HO.bd.tagE e) (by decide) rfl
      · have h8 := HO.nc
        have h9 := h.base.size
        rw [e]
        omega
    clear hc2 hch2 HO
    have hn8 : n ≤ 8 := by rw [HN.out]; exact hk.many
    have b32 : W2.cell? ⟨p, 32, none⟩ = some (.slice g.ta n g.tc) := by rw [HN.out]; exact (HO1.out.bd.bcell hk.cells hk.own).2.2.1
    go_wp2_with fail
    go_region
    go_wp2_with fail
    go_loopw [28] (fun i wr => ∃ (k : Nat) (sa : Option Addr) (sc : Nat), k ≤ n ∧ i = .int .i64 (k : Int) ∧ Hid (OutAt w0 w wr p g B qo qc (B.cells.map (Value.int .i64)).toArray (.slice sa k sc) k ((B.states.take k).map (Value.int .i64)))) (fun i _ => n - (intOf i).toNat)
    case atStart => exact ⟨0, none, 0, Nat.zero_le _, rfl, HO1⟩
    case round =>
      obtain ⟨k, sa, sc, hkn, rfl, HW⟩ := hrel
      clear HO1 hcopy
      by_cases hlt : k < n
      · have hlt' : k < B.ts.length := by rw [← HN.out]; exact hlt
        obtain ⟨rt, hra, rk, hle, hmx, hrlt⟩ := HW.out.bd.rowAt (k := k) hlt'
        rw [← HN.out] at hle
        unfold maxLen at hmx
        rw [hra]
        have hx1 : (0 : Int) ≤ (k : Int) := by omega
        have hx2 : (k : Int) < (n : Int) := by omega
        have HST : Hid (Calls Try.prog 29 #[at_ p, at_ (g.q k)] wr fun e w' => e = .returned (.int .i64 (B.state (B.t k))) ∧ Below wr.heap.size wr w') := state_at HW.out.bd hk hlt'
        have o2 := HW.out.out.cell 2
        simp at o2
        obtain ⟨st, HSTT⟩ : ∃ st, Hid (st = B.state (B.t k)) := ⟨_, rfl⟩
        have HST2 : Hid (Calls Try.prog 29 #[at_ p, at_ (g.q k)] wr.drew fun e w' => ∃ v, e = .returned v ∧ (v = .int .i64 st ∧ Below wr.heap.size wr w')) := by
          unfold Hid
          rw [HSTT.out]
          refine (state_at HW.out.bd.drew hk hlt').mono ?_
          rintro e w' ⟨h1, h2⟩
          exact ⟨_, h1, rfl, (Below.refl _ _).drew.trans h2⟩
        clear HST
        go_wp2_with fail
        go_region_law (first
            | (refine step_calls rfl Try.func29 (by kernel_rfl) (by kernel_rfl) rfl (va := at_ p) (vb := at_ (g.q k)) (by simp [Act.eval, Act.put]) (by simp [Act.eval, Act.put]) HST2.out ?_
               rintro v vx ⟨rfl, hb⟩
               have HW2 : Hid (OutAt w0 w vx p g B qo qc (B.cells.map (Value.int .i64)).toArray (.slice sa k sc) k ((B.states.take k).map (Value.int .i64))) := HW.out.below hb
               have o2 := HW2.out.out.cell 2
               simp at o2
               have HW3 : Hid (OutAt w0 w (vx.alloc (.cells #[.int .i64 st] 3)) p g B qo qc (B.cells.map (Value.int .i64)).toArray (.slice sa k sc) k ((B.states.take k).map (Value.int .i64))) := HW2.out.below ((Below.refl _ _).alloc (Nat.le_refl _) _)
               have HNW : Hid (∀ j u, [Value.int .i64 st][j]? = some u → (vx.alloc (.cells #[.int .i64 st] 3)).cell? ((⟨vx.heap.size, 0, none⟩ : Addr).add j) = some u) := World.news_of_block (cs := #[.int .i64 st]) (Box.new vx 3 #[.int .i64 st])
               have hqlt := HW2.out.out.lt
               clear hb)
            | (refine step_append_lies _ rfl (.tmp 33) (.tmp 37) 24 rfl w.heap.size 3 j0 _ 1 8 Try.underlying24 hj0 hz0 hz1 hz2 rfl (by decide) _ _ _ (by simp [Act.eval]) HW3.out.states ⟨vx.heap.size, 0, none⟩ 1 1 [.int .i64 st] (by simp [Act.eval]) rfl HNW.out (by intro u hu; rw [List.mem_singleton.1 hu]; rfl) (by omega) (by unfold maxLen; omega) (by omega) HW3.out.base.size _ rfl ?_
               intro r4 c4 w4 hr4 hg4 hl4 hlt4
               have HW5 : Hid (OutAt w0 w (w4.setCell ⟨qo, 2, none⟩ (.slice (some ⟨r4, 0, none⟩) (k + 1) c4)) p g B qo qc (B.cells.map (Value.int .i64)).toArray (.slice (some ⟨r4, 0, none⟩) (k + 1) c4) (k + 1) ((B.states.take k).map (Value.int .i64) ++ [.int .i64 st])) := HW3.out.push HB0.out HFT.out hr4 hg4 (hl4.imp id (fun e => Nat.le_of_eq e.symm))
               have hqo4 : w4.heap[qo]? = (vx.alloc (.cells #[.int .i64 st] 3)).heap[qo]? := hg4.block _ HW3.out.out.lt (fun e => tag_ne HW3.out.out.tag (row_tag HW3.out.states e.symm) (by decide) rfl)
               have HBQ := HW3.out.out.kept hqo4
               have o2 := HBQ.cell 2
               simp at o2
               have f2 := HBQ.soft 2
               clear hr4 hg4 hl4 hlt4 hqo4 HBQ))
        all_goals
          go_wp2_with fail
          go_roundw
          case rel =>
            refine ⟨k + 1, some ⟨r4, 0, none⟩, c4, by omega, by go_num, ?_⟩
            have h9 := HW5.out
            have e : (B.states.take k).map (Value.int .i64) ++ [.int .i64 st] = (B.states.take (k + 1)).map (Value.int .i64) := by
              have hl9 : k < B.states.length := by simp [PB.states]; exact hlt'
              rw [List.take_add_one, List.getElem?_eq_getElem hl9, List.map_append, HSTT.out]
              simp [PB.states, PB.t, List.getD, hlt']
            rw [e] at h9
            exact h9
          case measure => simp [intOf]; omega
      · obtain rfl : k = n := by omega
        have HO9 := HW.out.out
        have y0 := HO9.cell 0
        have y1 := HO9.cell 1
        have y2 := HO9.cell 2
        have y3 := HO9.cell 3
        simp at y0 y1 y2 y3
        have z0 := HW.out.res.cell 0
        have z1 := HW.out.res.cell 1
        have z2 := HW.out.res.cell 2
        have z3 := HW.out.res.cell 3
        simp at z0 z1 z2 z3
        have t0 := HW.out.res.soft 0
        have t1 := HW.out.res.soft 1
        have t2 := HW.out.res.soft 2
        have t3 := HW.out.res.soft 3
        go_wp2
        refine bodyPost_ret (v := .agg #[.slice (some ⟨qc, 0, none⟩) 16 16, .slice g.ea B.em.length g.ec, .slice sa k sc, .int .i64 (B.steps : Int)]) (by simp [results, Try.results17, go_sem, *]) rfl ?_
        have hW := HW.out
        have e : B.states.take k = B.states := by rw [HN.out, List.take_of_length_le (by simp [PB.states])]
        have hlow : ∀ b, b ≠ w.heap.size → ((((wr.setCell ⟨w.heap.size, 0, none⟩ (.slice (some ⟨qc, 0, none⟩) 16 16)).setCell ⟨w.heap.size, 1, none⟩ (.slice g.ea B.em.length g.ec)).setCell ⟨w.heap.size, 2, none⟩ (.slice sa k sc)).setCell ⟨w.heap.size, 3, none⟩ (.int .i64 (B.steps : Int))).heap[b]? = wr.heap[b]? := fun b hb => by
          rw [Below.heap_setCell _ _ _ _ hb, Below.heap_setCell _ _ _ _ hb, Below.heap_setCell _ _ _ _ hb, Below.heap_setCell _ _ _ _ hb]
        refine ⟨qc, sa, sc, rfl, hW.cells.kept (hlow qc (tag_ne hW.cells.tag hW.res.tag (by decide))), ?_, row_same hW.bd.emits fun b e' => hlow b (tag_ne (hW.bd.tagE (by rw [← own_blk]; exact e')) hW.res.tag (by decide)), Below.setCell (Below.setCell (Below.setCell (Below.setCell hW.bd.base HB0.out _) HB0.out _) HB0.out _) HB0.out _⟩
        have hst := hW.states
        rw [e] at hst
        refine row_same ⟨hst.1, ?_⟩ fun b e' => hlow b (tag_ne (row_tag hst e') hW.res.tag (by decide))
        rcases hst.2 with hn | ⟨b, c, cur, hv, hB, hg, rest⟩
        · exact .inl hn
        · exact .inr ⟨b, c, cur, hv, Nat.le_trans HB0.out hB, hg, rest⟩
end Go.Proofs.Ytehkcgjiimfdjaa
/- The contract of sched.Run. -/
namespace Go.Proofs.Ytehkcgjiimfdjaa
open Go.RowKit
theorem fresh_ok {c : List Ins} (h : codeOk c = true) : (fresh c).Ok := by
  unfold fresh PTask.goTo
  by_cases e : (0 : Nat) = c.length
  · rw [if_pos e]
    exact ⟨h, rfl, by simp, fun h3 => absurd h3 (by simp), fun h3 => by simp at h3, by simp⟩
  · rw [if_neg e]
    exact ⟨h, rfl, by simp, fun _ => by simp only; omega, fun h3 => by simp only at h3; omega, by simp⟩
theorem begins_ok {code : List (List Ins)} {cs : List Int} (h : allOk code cs = true) : (begins code cs).Ok := by
  simp only [allOk, Bool.and_eq_true, decide_eq_true_eq, List.all_eq_true] at h
  refine ⟨by simp [begins]; omega, by simp [begins], by rw [begins_len]; exact h.1.1, fun i hi => ?_, fun m k hm => ?_⟩
  · rw [begins_len] at hi
    rw [begins_t _ _ hi]
    exact fresh_ok (h.2 _ (by simp [List.getD, hi]))
  · exfalso
    have e : (begins code cs).own = List.replicate 16 none := rfl
    rw [e] at hm
    simp only [List.getD, List.getElem?_replicate] at hm
    split at hm <;> cases hm
structure Ran (w w' : World) (B : PB) (qc : Nat) (ea : Option Addr) (ec : Nat) (sa : Option Addr) (sc : Nat) : Prop where
  cells : Box w' qc 3 (B.cells.map (Value.int .i64)).toArray
  states : w'.ownsRow w.heap.size 3 1 (.slice sa B.ts.length sc) B.ts.length (B.states.map (Value.int .i64))
  emits : w'.ownsRow w.heap.size 34 2 (.slice ea B.em.length ec) B.em.length (cellsE B.em)
  base : Below w.heap.size w w'
  ok : B.Ok
set_option maxRecDepth 100000 in
set_option maxHeartbeats 1000000 in
theorem srun_at {w : World} (a : Option Addr) (len cap : Nat) (code : List (List Ins)) (ca : Option Addr) (cl cc : Nat) (cs : List Int) (pa : Option Addr) (pl pc : Nat) (ps : List Int) (h : CdAt w a len cap code) (hc : IsAt w ca cl cc cs) (hp : IsAt w pa pl pc ps) (hst : ps.length ≤ 4611686018427387904) (hem : allOk code cs = true → ((begins code cs).run ps).em.length < 1099511627776) :
    Calls Try.prog 10 #[.slice a len cap, .slice ca cl cc, .slice pa pl pc] w fun e w' => (allOk code cs = false ∧ e = .returned (.tuple #[.agg #[.slice none 0 0, .slice none 0 0, .slice none 0 0, .int .i64 0], .int .i64 50]) ∧ Below w.heap.size w w') ∨
      (allOk code cs = true ∧ ∃ qc ea ec sa sc, e = .returned (.tuple #[.agg #[.slice (some ⟨qc, 0, none⟩) 16 16, .slice ea ((begins code cs).run ps).em.length ec, .slice sa ((begins code cs).run ps).ts.length sc, .int .i64 (((begins code cs).run ps).steps : Int)], .int .i64 0]) ∧ Ran w w' ((begins code cs).run ps) qc ea ec sa sc) := by
  have HC : Hid (CdAt w a len cap code) := h
  have HI : Hid (IsAt w ca cl cc cs) := hc
  have HP : Hid (IsAt w pa pl pc ps) := hp
  have HS : Hid (cs.length = cl) := hc.size
  clear h hc hp
  have hA : Below w.heap.size w (w.alloc (.cells #[.slice none 0 0, .slice none 0 0, .slice none 0 0, .int .i64 0] 27)) := (Below.refl _ _).alloc (Nat.le_refl _) _
  have HX : Hid (Box (w.alloc (.cells #[.slice none 0 0, .slice none 0 0, .slice none 0 0, .int .i64 0] 27)) w.heap.size 27 #[.slice none 0 0, .slice none 0 0, .slice none 0 0, .int .i64 0]) := Box.new w _ _
  have HAL : Hid (Calls Try.prog 14 #[.slice a len cap, .slice ca cl cc] (w.alloc (.cells #[.slice none 0 0, .slice none 0 0, .slice none 0 0, .int .i64 0] 27)) fun e w2 => e = .returned (.bool (allOk code cs)) ∧ w.heap.size < w2.heap.size ∧ Below w.heap.size w w2 ∧ Box w2 w.heap.size 27 #[.slice none 0 0, .slice none 0 0, .slice none 0 0, .int .i64 0]) := by
    refine (allowed_any a len cap code ca cl cc cs _ (HC.out.below (Nat.le_refl _) hA) HS.out).mono ?_
    rintro e w2 ⟨h1, h2⟩
    have h3 := h2.size
    simp at h3
    exact ⟨h1, by omega, hA.trans (h2.mono (by simp)), HX.out.kept (h2.block _ (by simp))⟩
  clear hA HX
  cases hok : allOk code cs
  · rw [hok] at HAL
    go_enter Try.func10, Try.ntmps10
    go_wp2_with fail
    refine (Calls.mono HAL.out) ?_
    rintro _ w2 ⟨rfl, hlt2, hb2, hx2⟩
    have z0 := hx2.cell 0
    have z1 := hx2.cell 1
    have z2 := hx2.cell 2
    have z3 := hx2.cell 3
    simp at z0 z1 z2 z3
    have t0 := hx2.soft 0
    have t1 := hx2.soft 1
    have t2 := hx2.soft 2
    have t3 := hx2.soft 3
    go_wp2
    refine bodyPost_ret (v := .tuple #[.agg #[.slice none 0 0, .slice none 0 0, .slice none 0 0, .int .i64 0], .int .i64 50]) (by simp [results, Try.results10, go_sem, *]) rfl ?_
    exact .inl ⟨trivial, rfl, (((hb2.setCell (Nat.le_refl _) _).setCell (Nat.le_refl _) _).setCell (Nat.le_refl _) _).setCell (Nat.le_refl _) _⟩
  · rw [hok] at HAL
    go_enter Try.func10, Try.ntmps10
    go_wp2_with fail
    refine (Calls.mono HAL.out) ?_
    rintro _ w2 ⟨rfl, hlt2, hb2, hx2⟩
    have HX2 : Hid (Box w2 w.heap.size 27 #[.slice none 0 0, .slice none 0 0, .slice none 0 0, .int .i64 0]) := hx2
    have HB2 : Hid (Below w.heap.size w w2) := hb2
    clear hx2 hb2 HAL
    go_wp2_with fail
    refine (begin_at a len cap code ca cl cc cs (HC.out.below (Nat.le_refl _) HB2.out) (HI.out.below (Nat.le_refl _) HB2.out) hok).mono ?_
    rintro _ w3 ⟨p, g, rfl, h3⟩
    have HB3 : Hid (BdAt w2 w3 p g (begins code cs)) := h3
    clear h3
    go_wp2_with fail
    refine (run_at do_at HB3.out (begins_ok hok) pa pl pc ps (HP.out.below (Nat.le_refl _) HB2.out) (hem hok) (by show 0 + ps.length ≤ _; omega)).mono ?_
    rintro _ w4 ⟨rfl, g4, h4, _⟩
    have HB4 : Hid (BdAt w2 w4 p g4 ((begins code cs).run ps)) := h4
    have HOK : Hid ((begins code cs).run ps).Ok := (run_ok ps (begins_ok hok)).1
    clear h4
    go_wp2_with fail
    refine (outcome_at HB4.out HOK.out).mono ?_
    rintro _ w5 ⟨qc, sa, sc, rfl, x1, x2, x3, x4⟩
    have hx5 := HX2.out.kept (x4.block _ hlt2)
    have z0 := hx5.cell 0
    have z1 := hx5.cell 1
    have z2 := hx5.cell 2
    have z3 := hx5.cell 3
    simp at z0 z1 z2 z3
    have t0 := hx5.soft 0
    have t1 := hx5.soft 1
    have t2 := hx5.soft 2
    have t3 := hx5.soft 3
    have HX1 : Hid (Box w5 qc 3 (((begins code cs).run ps).cells.map (Value.int .i64)).toArray) := x1
    have HX3 : Hid (w5.ownsRow w2.heap.size 3 1 (.slice sa ((begins code cs).run ps).ts.length sc) ((begins code cs).run ps).ts.length (((begins code cs).run ps).states.map (Value.int .i64))) := x2
    have HX4 : Hid (w5.ownsRow w2.heap.size 34 2 (.slice g4.ea ((begins code cs).run ps).em.length g4.ec) ((begins code cs).run ps).em.length (cellsE ((begins code cs).run ps).em)) := x3
    have HX5 : Hid (Below w2.heap.size w2 w5) := x4
    have HX6 : Hid (Box w5 w.heap.size 27 #[.slice none 0 0, .slice none 0 0, .slice none 0 0, .int .i64 0]) := hx5
    clear x1 x2 x3 x4 hx5 HC HI HP
    obtain ⟨em, HEM⟩ : ∃ em, Hid (em = ((begins code cs).run ps).em.length) := ⟨_, rfl⟩
    obtain ⟨tn, HTN⟩ : ∃ tn, Hid (tn = ((begins code cs).run ps).ts.length) := ⟨_, rfl⟩
    obtain ⟨sn, HSN⟩ : ∃ sn : Int, Hid (sn = (((begins code cs).run ps).steps : Int)) := ⟨_, rfl⟩
    rw [← HEM.out, ← HTN.out, ← HSN.out]
    go_wp2
    refine bodyPost_ret (v := .tuple #[.agg #[.slice (some ⟨qc, 0, none⟩) 16 16, .slice g4.ea em g4.ec, .slice sa tn sc, .int .i64 sn], .int .i64 0]) (by simp [results, Try.results10, go_sem, *]) rfl ?_
    refine .inr ⟨trivial, qc, g4.ea, g4.ec, sa, sc, by rw [HEM.out, HTN.out, HSN.out], ?_⟩
    have hlow : ∀ b, b ≠ w.heap.size → ((((w5.setCell ⟨w.heap.size, 0, none⟩ (.slice (some ⟨qc, 0, none⟩) 16 16)).setCell ⟨w.heap.size, 1, none⟩ (.slice g4.ea em g4.ec)).setCell ⟨w.heap.size, 2, none⟩ (.slice sa tn sc)).setCell ⟨w.heap.size, 3, none⟩ (.int .i64 sn)).heap[b]? = w5.heap[b]? := fun b hb => by
      rw [Below.heap_setCell _ _ _ _ hb, Below.heap_setCell _ _ _ _ hb, Below.heap_setCell _ _ _ _ hb, Below.heap_setCell _ _ _ _ hb]
    have hle2 : w.heap.size ≤ w2.heap.size := Nat.le_of_lt hlt2
    have lower : ∀ {e : TypeId} {size n : Nat} {v : Value} {xs : List Value} {W : World}, W.ownsRow w2.heap.size e size v n xs → W.ownsRow w.heap.size e size v n xs := by
      intro e size n v xs W hW
      refine ⟨hW.1, ?_⟩
      rcases hW.2 with hn | ⟨b, c, cur, hv, hB, hg, rest⟩
      · exact .inl hn
      · exact .inr ⟨b, c, cur, hv, Nat.le_trans hle2 hB, hg, rest⟩
    refine ⟨HX1.out.kept (hlow qc (tag_ne HX1.out.tag HX6.out.tag (by decide))), lower (row_same HX3.out fun b e => hlow b (tag_ne (row_tag HX3.out e) HX6.out.tag (by decide))), lower (row_same HX4.out fun b e => hlow b (tag_ne (row_tag HX4.out e) HX6.out.tag (by decide))), ?_, HOK.out⟩
    exact ((((HB2.out.trans (HX5.out.mono hle2)).setCell (Nat.le_refl _) _).setCell (Nat.le_refl _) _).setCell (Nat.le_refl _) _).setCell (Nat.le_refl _) _
end Go.Proofs.Ytehkcgjiimfdjaa
