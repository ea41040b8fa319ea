/- Merge's iterator goes to what comes first: its take, its start. -/
import Derived.Test.YtfijibengmgegaaM16MgF
namespace Go.Proofs.Ytfijibengmgegaa
open Go.RowKit
set_option linter.unusedVariables false
set_option linter.unusedSimpArgs false
section
variable {W W' : World} {R RL : Nat → Prop} {p B : Nat} {la : Option Addr} {lc : Nat} {L : List (List KV)} {x last : PlL} {b : Bool} {hv : Value} {i hp : Nat} {up : Bool} {pa : Option Addr} {pc : Nat} {ps : List PlL} {v : Nat → Nat}
abbrev RNew (RL : Nat → Prop) (p hp : Nat) (pa : Option Addr) : Nat → Prop := fun k => k = p ∨ RL k ∨ k = hp ∨ blkOf pa = some k
abbrev itW (W : World) (p : Nat) (y : PlL) (c : Bool) : World := ((W.setCell ⟨p, 1, none⟩ (.int .i64 (y.1 : Int))).setCell ⟨p, 2, none⟩ (.int .i64 (y.2 : Int))).setCell ⟨p, 3, none⟩ (.bool c)
theorem It.put (h : It W R RL p la lc L x b hv) (hs : W.heap.size ≤ W'.heap.size) (hW : ∀ k, RL k ∨ k = p → W'.heap[k]? = W.heap[k]?) (y : PlL) (c : Bool) (R' : Nat → Prop) (h1 : ∀ k, R' k → k < W'.heap.size) (h2 : R' p) (h3 : ∀ k, RL k → R' k) : It (itW W' p y c) R' RL p la lc L y c hv := by
  have hx := h.box.kept (hW p (.inr rfl))
  refine ⟨(((hx.set 1 _).set 2 _).set 3 _).eq (by simp), fun k hk => by simpa using h1 k hk, ⟨h2, h.rp.2⟩, h3, h.ls.kept fun k hr => ?_, h.rise, h.few⟩
  have hne : k ≠ p := fun e => h.rp.2 (e ▸ hr)
  exact (((Below.heap_setCell _ _ _ _ hne).trans (Below.heap_setCell _ _ _ _ hne)).trans (Below.heap_setCell _ _ _ _ hne)).trans (hW k (.inl hr))
theorem Hd.itW (h : Hd W B hp la L.length lc up pa pc ps last) (h1 : hp ≠ p) (h2 : ∀ k, blkOf pa = some k → k ≠ p) (y : PlL) (c : Bool) : Hd (itW W p y c) B hp la L.length lc up pa pc ps last := h.kept (((Below.heap_setCell _ _ _ _ h1).trans (Below.heap_setCell _ _ _ _ h1)).trans (Below.heap_setCell _ _ _ _ h1)) fun k hk => ((Below.heap_setCell _ _ _ _ (h2 k hk)).trans (Below.heap_setCell _ _ _ _ (h2 k hk))).trans (Below.heap_setCell _ _ _ _ (h2 k hk))
def ItP (W : World) (R : Nat → Prop) (p hp : Nat) (la : Option Addr) (lc : Nat) (L : List (List KV)) (pa : Option Addr) (o : Option Nat) (W' : World) : Prop := ∃ R' : Nat → Prop, Mg16 W' R' p L o ∧ (∀ k, R' k → R k ∨ k = hp ∨ blkOf pa = some k) ∧ Chg (fun k => k = p ∨ k = hp ∨ blkOf pa = some k) W W' ∧ W'.cell? ⟨p, 0, none⟩ = some (.slice la L.length lc)
/-- What comes next to a gap was taken. -/
theorem after_some (hg : Gp L up v L.length ps) (hL : RiseL L) (hc : CutL L v) (hne : 0 < ps.length) : ∃ j, afterT L v up = some j ∧ (allP L)[j]? = some (ps.getD 0 d0) ∧ CutL L (stepV up v (ps.getD 0 d0).1) ∧ (up = true → sumV (stepV up v (ps.getD 0 d0).1) L.length = j + 1) ∧ (up = false → sumV (stepV up v (ps.getD 0 d0).1) L.length = j) := by
  obtain ⟨g1, g2, g3⟩ := hg.cut hL hc hne
  cases up with
  | true =>
    obtain ⟨a, b⟩ := g2 rfl
    refine ⟨sumV v L.length, ?_, a, g1, fun _ => b, fun e => (by cases e)⟩
    unfold afterT normO
    rw [if_pos (by have := (List.getElem?_eq_some_iff.1 a).1; simpa [allL] using this)]
  | false =>
    obtain ⟨a, b⟩ := g3 rfl
    refine ⟨sumV (stepV false v (ps.getD 0 d0).1) L.length, ?_, a, g1, fun e => (by cases e), fun _ => rfl⟩
    unfold afterT
    dsimp only
    rw [if_neg (by omega)]
    congr 1
    omega
theorem after_none (hg : Gp L up v L.length []) (hc : CutL L v) : afterT L v up = none := by
  obtain ⟨g1, g2⟩ := hg.none hc
  cases up with
  | true =>
    unfold afterT normO
    dsimp only
    rw [g1 rfl, if_neg (by simp [allL])]
  | false =>
    unfold afterT
    dsimp only
    rw [if_pos (g2 rfl)]
set_option maxRecDepth 100000 in
set_option maxHeartbeats 2000000 in
theorem ittake_any (h : It W R RL p la lc L x b (at_ hp)) (hd : Hd W B hp la L.length lc up pa pc ps last) (hr : ¬ RL hp) (hrp : ∀ k, blkOf pa = some k → ¬ RL k) (hg : Gp L up v L.length ps) (hc : CutL L v) :
    Calls Try.prog 34 #[at_ p] W fun e w' => e = .returned (.tuple #[]) ∧ ItP W R p hp la lc L pa (afterT L v up) w' := by
  have x1 := h.box.cell 1
  have x2 := h.box.cell 2
  have x3 := h.box.cell 3
  have x4 := h.box.cell 4
  simp only [List.getElem?_toArray, List.getElem?_cons_succ, List.getElem?_cons_zero] at x1 x2 x3 x4
  have hne : hp ≠ p := tag_ne hd.box.tag h.box.tag (by decide)
  have hnp : ∀ k, blkOf pa = some k → k ≠ p := fun k hk => tag_ne (hd.row.tag hk) h.box.tag (by decide)
  have HH : Hid (It W R RL p la lc L x b (at_ hp) ∧ Hd W B hp la L.length lc up pa pc ps last ∧ ¬ RL hp ∧ (∀ k, blkOf pa = some k → ¬ RL k) ∧ Gp L up v L.length ps ∧ CutL L v ∧ hp ≠ p ∧ (∀ k, blkOf pa = some k → k ≠ p)) := ⟨h, hd, hr, hrp, hg, hc, hne, hnp⟩
  have HCH : Hid (∀ w' : World, Chg (CHt pa hp) W w' → (∀ k, RL k ∨ k = p → w'.heap[k]? = W.heap[k]?) ∧ LsAt w' la L.length lc L) := fun w' hw => by
    have hk : ∀ k, RL k ∨ k = p → w'.heap[k]? = W.heap[k]? := fun k hk => hw.block k (by
      rcases hk with hk | hk
      · exact h.lt k (h.rl k hk)
      · exact h.lt k (hk ▸ h.rp.1)) (fun hch => by
      rcases hch with hch | hch
      · rcases hk with hk | hk
        · exact hrp k hch hk
        · exact hnp k hch hk
      · rcases hk with hk | hk
        · exact hr (hch ▸ hk)
        · exact hne (hch ▸ hk))
    exact ⟨hk, h.ls w' fun k hr => hk k (.inl hr)⟩
  have hpl := h.box.lt
  clear h hr hrp hc hg
  cases ps with
  | nil =>
    have htk := take_none hd
    clear hd
    go_enter Try.func34, Try.ntmps34
    go_wp2_with fail
    refine htk.mono ?_
    rintro _ w2 ⟨rfl, hd2, hc2⟩
    have hbx := HH.out.1.box.kept ((HCH.out w2 hc2).1 p (.inr rfl))
    have H2 : Hid (Hd w2 B hp la L.length lc up pa pc [] last ∧ Chg (CHt pa hp) W w2 ∧ Box w2 p TItr #[.slice la L.length lc, .int .i64 (x.1 : Int), .int .i64 (x.2 : Int), .bool b, at_ hp]) := ⟨hd2, hc2, hbx⟩
    have y1 := hbx.cell 1
    have y2 := hbx.cell 2
    have y3 := hbx.cell 3
    have ys := hbx.soft
    simp only [List.getElem?_toArray, List.getElem?_cons_succ, List.getElem?_cons_zero] at y1 y2 y3
    have HF : Hid (ItP W R p hp la lc L pa (afterT L v up) (itW w2 p d0 false)) := by
      have hno := after_none HH.out.2.2.2.2.1 HH.out.2.2.2.2.2.1
      have hit := HH.out.1.put (W' := w2) hc2.size (HCH.out w2 hc2).1 d0 false (RNew RL p hp pa) (fun k hk => by
        rcases hk with e | e | e | e
        · rw [e]; exact hbx.lt
        · exact Nat.lt_of_lt_of_le (HH.out.1.lt k (HH.out.1.rl k e)) hc2.size
        · rw [e]; exact hd2.box.lt
        · exact (hd2.row.ge e).2) (.inl rfl) (fun k hk => .inr (.inl hk))
      refine ⟨RNew RL p hp pa, ⟨RL, la, lc, d0, at_ hp, ?_, ?_⟩, fun k hk => ?_, ?_, ?_⟩
      · rw [hno]; exact hit
      · rw [hno]; intro i e; cases e
      · rcases hk with e | e | e | e
        · exact .inl (e ▸ HH.out.1.rp.1)
        · exact .inl (HH.out.1.rl k e)
        · exact .inr (.inl e)
        · exact .inr (.inr e)
      · refine (((hc2.wide fun k _ hk => ?_).set (p := p) (fun _ => .inl rfl) _ _).set (p := p) (fun _ => .inl rfl) _ _).set (p := p) (fun _ => .inl rfl) _ _
        rcases hk with e | e
        · exact .inr (.inr e)
        · exact .inr (.inl e)
      · exact hit.box.cell 0
    clear hd2 hc2 hbx htk
    unfold itW at HF
    go_wp2
    go_end0
    exact ⟨rfl, HF.out⟩
  | cons y t =>
    have htk := take_some (L := L) (v := v) hd (fun w' hw => (HCH.out w' hw).2) HH.out.2.2.2.2.2.1.le (few_each HH.out.1.few) HH.out.1.few.1 HH.out.2.2.2.2.1
    clear hd
    go_enter Try.func34, Try.ntmps34
    go_wp2_with fail
    refine htk.mono ?_
    rintro _ w2 ⟨qs, rfl, hd2, hc2, hg2⟩
    have hbx := HH.out.1.box.kept ((HCH.out w2 hc2).1 p (.inr rfl))
    have y1 := hbx.cell 1
    have y2 := hbx.cell 2
    have y3 := hbx.cell 3
    have ys := hbx.soft
    simp only [List.getElem?_toArray, List.getElem?_cons_succ, List.getElem?_cons_zero] at y1 y2 y3
    have HF : Hid (ItP W R p hp la lc L pa (afterT L v up) (itW w2 p y true)) := by
      obtain ⟨j, hso, hat, hcu, hnx, hpv⟩ := after_some HH.out.2.2.2.2.1 HH.out.1.rise HH.out.2.2.2.2.2.1 (by simp)
      have hy : (y :: t).getD 0 d0 = y := rfl
      rw [hy] at hat hcu hnx hpv
      have hit := HH.out.1.put (W' := w2) hc2.size (HCH.out w2 hc2).1 y true (RNew RL p hp pa) (fun k hk => by
        rcases hk with e | e | e | e
        · rw [e]; exact hbx.lt
        · exact Nat.lt_of_lt_of_le (HH.out.1.lt k (HH.out.1.rl k e)) hc2.size
        · rw [e]; exact hd2.box.lt
        · exact (hd2.row.ge e).2) (.inl rfl) (fun k hk => .inr (.inl hk))
      refine ⟨RNew RL p hp pa, ⟨RL, la, lc, y, at_ hp, ?_, ?_⟩, fun k hk => ?_, ?_, ?_⟩
      · rw [hso]; exact hit
      · rw [hso]
        intro i e
        obtain rfl := Option.some.inj e
        exact ⟨up, hp, pa, pc, qs, _, rfl, (hd2.zero).itW HH.out.2.2.2.2.2.2.1 HH.out.2.2.2.2.2.2.2 y true, ⟨.inr (.inr (.inl rfl)), HH.out.2.2.1⟩, fun k hk => ⟨.inr (.inr (.inr hk)), HH.out.2.2.2.1 k hk⟩, hg2, hcu, hat, hnx, hpv⟩
      · rcases hk with e | e | e | e
        · exact .inl (e ▸ HH.out.1.rp.1)
        · exact .inl (HH.out.1.rl k e)
        · exact .inr (.inl e)
        · exact .inr (.inr e)
      · refine (((hc2.wide fun k _ hk => ?_).set (p := p) (fun _ => .inl rfl) _ _).set (p := p) (fun _ => .inl rfl) _ _).set (p := p) (fun _ => .inl rfl) _ _
        rcases hk with e | e
        · exact .inr (.inr e)
        · exact .inr (.inl e)
      · exact hit.box.cell 0
    clear hd2 hc2 hbx htk hg2
    unfold itW at HF
    go_wp2
    go_end0
    exact ⟨rfl, HF.out⟩
end
end Go.Proofs.Ytfijibengmgegaa
