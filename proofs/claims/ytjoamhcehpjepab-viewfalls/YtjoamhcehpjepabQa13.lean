/- Merge's iterator goes to what comes first: its take, its start. -/
import Derived.Test.YtjoamhcehpjepabQa11
import Derived.Test.YtjoamhcehpjepabQa12
namespace Go.Proofs.Ytjoamhcehpjepab
open Go.RowKit
set_option linter.unusedVariables false
set_option linter.unusedSimpArgs false
section
variable {W W' : World} {R RL : Nat → Prop} {p B : Nat} {la : Option Addr} {lc : Nat} {L : List (List KV)} {x last : PlL} {b : Bool} {hv : Value} {i hp : Nat} {up : Bool} {pa : Option Addr} {pc : Nat} {ps : List PlL} {v : Nat → Nat}
abbrev RNew (RL : Nat → Prop) (p hp : Nat) (pa : Option Addr) : Nat → Prop := fun k => k = p ∨ RL k ∨ k = hp ∨ blkOf pa = some k
abbrev itW (W : World) (p : Nat) (y : PlL) (c : Bool) : World := ((W.setCell ⟨p, 1, none⟩ (.int .i64 (y.1 : Int))).setCell ⟨p, 2, none⟩ (.int .i64 (y.2 : Int))).setCell ⟨p, 3, none⟩ (.bool c)
theorem It.put (h : It W R RL p la lc L x b hv) (hs : W.heap.size ≤ W'.heap.size) (hW : ∀ k, RL k ∨ k = p → W'.heap[k]? = W.heap[k]?) (y : PlL) (c : Bool) (R' : Nat → Prop) (h1 : ∀ k, R' k → k < W'.heap.size) (h2 : R' p) (h3 : ∀ k, RL k → R' k) : It (itW W' p y c) R' RL p la lc L y c hv := by
  have hx := h.box.kept (hW p (.inr rfl))
  refine ⟨(((hx.set 1 _).set 2 _).set 3 _).eq (by simp), fun k hk => by simpa using h1 k hk, ⟨h2, h.rp.2⟩, h3, h.ls.kept fun k hr => ?_, h.rise, h.few⟩
  have hne : k ≠ p := fun e => h.rp.2 (e ▸ hr)
  exact (((Below.heap_setCell _ _ _ _ hne).trans (Below.heap_setCell _ _ _ _ hne)).trans (Below.heap_setCell _ _ _ _ hne)).trans (hW k (.inl hr))
theorem Hd.itW (h : Hd W B hp la L.length lc up pa pc ps last) (h1 : hp ≠ p) (h2 : ∀ k, blkOf pa = some k → k ≠ p) (y : PlL) (c : Bool) : Hd (itW W p y c) B hp la L.length lc up pa pc ps last := h.kept (((Below.heap_setCell _ _ _ _ h1).trans (Below.heap_setCell _ _ _ _ h1)).trans (Below.heap_setCell _ _ _ _ h1)) fun k hk => ((Below.heap_setCell _ _ _ _ (h2 k hk)).trans (Below.heap_setCell _ _ _ _ (h2 k hk))).trans (Below.heap_setCell _ _ _ _ (h2 k hk))
def ItP (W : World) (R : Nat → Prop) (p hp : Nat) (la : Option Addr) (lc : Nat) (L : List (List KV)) (pa : Option Addr) (o : Option Nat) (W' : World) : Prop := ∃ R' : Nat → Prop, Mg16 W' R' p L o ∧ (∀ k, R' k → R k ∨ k = hp ∨ blkOf pa = some k) ∧ Chg (fun k => k = p ∨ k = hp ∨ blkOf pa = some k) W W' ∧ W'.cell? ⟨p, 0, none⟩ = some (.slice la L.length lc)
/-- What comes next to a gap was taken. -/
theorem after_some (hg : Gp L up v L.length ps) (hL : RiseL L) (hc : CutL L v) (hne : 0 < ps.length) : ∃ j, afterT L v up = some j ∧ (allP L)[j]? = some (ps.getD 0 d0) ∧ CutL L (stepV up v (ps.getD 0 d0).1) ∧ (up = true → sumV (stepV up v (ps.getD 0 d0).1) L.length = j + 1) ∧ (up = false → sumV (stepV up v (ps.getD 0 d0).1) L.length = j) := by
  obtain ⟨g1, g2, g3⟩ := hg.cut hL hc hne
  cases up with
  | true =>
    obtain ⟨a, b⟩ := g2 rfl
    refine ⟨sumV v L.length, ?_, a, g1, fun _ => b, fun e => (by cases e)⟩
    unfold afterT normO
    rw [if_pos (by have := (List.getElem?_eq_some_iff.1 a).1; simpa [allL] using this)]
  | false =>
    obtain ⟨a, b⟩ := g3 rfl
    refine ⟨sumV (stepV false v (ps.getD 0 d0).1) L.length, ?_, a, g1, fun e => (by cases e), fun _ => rfl⟩
    unfold afterT
    dsimp only
    rw [if_neg (by omega)]
    congr 1
    omega
theorem after_none (hg : Gp L up v L.length []) (hc : CutL L v) : afterT L v up = none := by
  obtain ⟨g1, g2⟩ := hg.none hc
  cases up with
  | true =>
    unfold afterT normO
    dsimp only
    rw [g1 rfl, if_neg (by simp [allL])]
  | false =>
    unfold afterT
    dsimp only
    rw [if_pos (g2 rfl)]
set_option maxRecDepth 100000 in
set_option maxHeartbeats 2000000 in
theorem ittake_any (h : It W R RL p la lc L x b (at_ hp)) (hd : Hd W B hp la L.length lc up pa pc ps last) (hr : ¬ RL hp) (hrp : ∀ k, blkOf pa = some k → ¬ RL k) (hg : Gp L up v L.length ps) (hc : CutL L v) :
    Calls Try.prog 33 #[at_ p] W fun e w' => e = .returned (.tuple #[]) ∧ ItP W R p hp la lc L pa (afterT L v up) w' := by
  have x1 := h.box.cell 1
  have x2 := h.box.cell 2
  have x3 := h.box.cell 3
  have x4 := h.box.cell 4
  simp only [List.getElem?_toArray, List.getElem?_cons_succ, List.getElem?_cons_zero] at x1 x2 x3 x4
  have hne : hp ≠ p := tag_ne hd.box.tag h.box.tag (by decide)
  have hnp : ∀ k, blkOf pa = some k → k ≠ p := fun k hk => tag_ne (hd.row.tag hk) h.box.tag (by decide)
  have HH : Hid (It W R RL p la lc L x b (at_ hp) ∧ Hd W B hp la L.length lc up pa pc ps last ∧ ¬ RL hp ∧ (∀ k, blkOf pa = some k → ¬ RL k) ∧ Gp L up v L.length ps ∧ CutL L v ∧ hp ≠ p ∧ (∀ k, blkOf pa = some k → k ≠ p)) := ⟨h, hd, hr, hrp, hg, hc, hne, hnp⟩
  have HCH : Hid (∀ w' : World, Chg (CHt pa hp) W w' → (∀ k, RL k ∨ k = p → w'.heap[k]? = W.heap[k]?) ∧ LsAt w' la L.length lc L) := fun w' hw => by
    have hk : ∀ k, RL k ∨ k = p → w'.heap[k]? = W.heap[k]? := fun k hk => hw.block k (by
      rcases hk with hk | hk
      · exact h.lt k (h.rl k hk)
      · exact h.lt k (hk ▸ h.rp.1)) (fun hch => by
      rcases hch with hch | hch
      · rcases hk with hk | hk
        · exact hrp k hch hk
        · exact hnp k hch hk
      · rcases hk with hk | hk
        · exact hr (hch ▸ hk)
        · exact hne (hch ▸ hk))
    exact ⟨hk, h.ls w' fun k hr => hk k (.inl hr)⟩
  have hpl := h.box.lt
  clear h hr hrp hc hg
  cases ps with
  | nil =>
    have htk := take_none hd
    clear hd
    go_enter Try.func33, Try.ntmps33
    go_wp2_with fail
    refine htk.mono ?_
    rintro _ w2 ⟨rfl, hd2, hc2⟩
    have hbx := HH.out.1.box.kept ((HCH.out w2 hc2).1 p (.inr rfl))
    have H2 : Hid (Hd w2 B hp la L.length lc up pa pc [] last ∧ Chg (CHt pa hp) W w2 ∧ Box w2 p TItr #[.slice la L.length lc, .int .i64 (x.1 : Int), .int .i64 (x.2 : Int), .bool b, at_ hp]) := ⟨hd2, hc2, hbx⟩
    have y1 := hbx.cell 1
    have y2 := hbx.cell 2
    have y3 := hbx.cell 3
    have ys := hbx.soft
    simp only [List.getElem?_toArray, List.getElem?_cons_succ, List.getElem?_cons_zero] at y1 y2 y3
    have HF : Hid (ItP W R p hp la lc L pa (afterT L v up) (itW w2 p d0 false)) := by
      have hno := after_none HH.out.2.2.2.2.1 HH.out.2.2.2.2.2.1
      have hit := HH.out.1.put (W' := w2) hc2.size (HCH.out w2 hc2).1 d0 false (RNew RL p hp pa) (fun k hk => by
        rcases hk with e | e | e | e
        · rw [e]; exact hbx.lt
        · exact Nat.lt_of_lt_of_le (HH.out.1.lt k (HH.out.1.rl k e)) hc2.size
        · rw [e]; exact hd2.box.lt
        · exact (hd2.row.ge e).2) (.inl rfl) (fun k hk => .inr (.inl hk))
      refine ⟨RNew RL p hp pa, ⟨RL, la, lc, d0, at_ hp, ?_, ?_⟩, fun k hk => ?_, ?_, ?_⟩
      · rw [hno]; exact hit
      · rw [hno]; intro i e; cases e
      · rcases hk with e | e | e | e
        · exact .inl (e ▸ HH.out.1.rp.1)
        · exact .inl (HH.out.1.rl k e)
        · exact .inr (.inl e)
        · exact .inr (.inr e)
      · refine (((hc2.wide fun k _ hk => ?_).set (p := p) (fun _ => .inl rfl) _ _).set (p := p) (fun _ => .inl rfl) _ _).set (p := p) (fun _ => .inl rfl) _ _
        rcases hk with e | e
        · exact .inr (.inr e)
        · exact .inr (.inl e)
      · exact hit.box.cell 0
    clear hd2 hc2 hbx htk
    unfold itW at HF
    go_wp2
    go_end0
    exact ⟨rfl, HF.out⟩
  | cons y t =>
    have htk := take_some (L := L) (v := v) hd (fun w' hw => (HCH.out w' hw).2) HH.out.2.2.2.2.2.1.le (few_each HH.out.1.few) HH.out.1.few.1 HH.out.2.2.2.2.1
    clear hd
    go_enter Try.func33, Try.ntmps33
    go_wp2_with fail
    refine htk.mono ?_
    rintro _ w2 ⟨qs, rfl, hd2, hc2, hg2⟩
    have hbx := HH.out.1.box.kept ((HCH.out w2 hc2).1 p (.inr rfl))
    have y1 := hbx.cell 1
    have y2 := hbx.cell 2
    have y3 := hbx.cell 3
    have ys := hbx.soft
    simp only [List.getElem?_toArray, List.getElem?_cons_succ, List.getElem?_cons_zero] at y1 y2 y3
    have HF : Hid (ItP W R p hp la lc L pa (afterT L v up) (itW w2 p y true)) := by
      obtain ⟨j, hso, hat, hcu, hnx, hpv⟩ := after_some HH.out.2.2.2.2.1 HH.out.1.rise HH.out.2.2.2.2.2.1 (by simp)
      have hy : (y :: t).getD 0 d0 = y := rfl
      rw [hy] at hat hcu hnx hpv
      have hit := HH.out.1.put (W' := w2) hc2.size (HCH.out w2 hc2).1 y true (RNew RL p hp pa) (fun k hk => by
        rcases hk with e | e | e | e
        · rw [e]; exact hbx.lt
        · exact Nat.lt_of_lt_of_le (HH.out.1.lt k (HH.out.1.rl k e)) hc2.size
        · rw [e]; exact hd2.box.lt
        · exact (hd2.row.ge e).2) (.inl rfl) (fun k hk => .inr (.inl hk))
      refine ⟨RNew RL p hp pa, ⟨RL, la, lc, y, at_ hp, ?_, ?_⟩, fun k hk => ?_, ?_, ?_⟩
      · rw [hso]; exact hit
      · rw [hso]
        intro i e
        obtain rfl := Option.some.inj e
        exact ⟨up, hp, pa, pc, qs, _, rfl, (hd2.zero).itW HH.out.2.2.2.2.2.2.1 HH.out.2.2.2.2.2.2.2 y true, ⟨.inr (.inr (.inl rfl)), HH.out.2.2.1⟩, fun k hk => ⟨.inr (.inr (.inr hk)), HH.out.2.2.2.1 k hk⟩, hg2, hcu, hat, hnx, hpv⟩
      · rcases hk with e | e | e | e
        · exact .inl (e ▸ HH.out.1.rp.1)
        · exact .inl (HH.out.1.rl k e)
        · exact .inr (.inl e)
        · exact .inr (.inr e)
      · refine (((hc2.wide fun k _ hk => ?_).set (p := p) (fun _ => .inl rfl) _ _).set (p := p) (fun _ => .inl rfl) _ _).set (p := p) (fun _ => .inl rfl) _ _
        rcases hk with e | e
        · exact .inr (.inr e)
        · exact .inr (.inl e)
      · exact hit.box.cell 0
    clear hd2 hc2 hbx htk hg2
    unfold itW at HF
    go_wp2
    go_end0
    exact ⟨rfl, HF.out⟩
end
end Go.Proofs.Ytjoamhcehpjepab
/- An iterator of a view goes to what comes first. -/
namespace Go.Proofs.Ytjoamhcehpjepab
open Go.RowKit
set_option linter.unusedVariables false
set_option linter.unusedSimpArgs false
section
variable {T : Tl} {W W' w : World} {R RL : Nat → Prop} {p B : Nat} {la : Option Addr} {lc : Nat} {L : List (List KV)} {x last : PlL} {b : Bool} {hv : Value} {i hp : Nat} {up : Bool} {pa : Option Addr} {pc : Nat} {ps : List PlL} {v : Nat → Nat} {o : Option Nat}
theorem ItV.put (h : ItV T W R RL p la lc L x b hv) (hs : W.heap.size ≤ W'.heap.size) (hW : ∀ k, RL k ∨ k = p → W'.heap[k]? = W.heap[k]?) (y : PlL) (c : Bool) (R' : Nat → Prop) (h1 : ∀ k, R' k → k < W'.heap.size) (h2 : R' p) (h3 : ∀ k, RL k → R' k) : ItV T (itW W' p y c) R' RL p la lc L y c hv := by
  have hx := h.box.kept (hW p (.inr rfl))
  refine ⟨(((hx.set 1 _).set 2 _).set 3 _).eq (by simp), fun k hk => by simpa using h1 k hk, ⟨h2, h.rp.2⟩, h3, h.ls.kept fun k hr => ?_, h.rise, h.few⟩
  have hne : k ≠ p := fun e => h.rp.2 (e ▸ hr)
  exact (((Below.heap_setCell _ _ _ _ hne).trans (Below.heap_setCell _ _ _ _ hne)).trans (Below.heap_setCell _ _ _ _ hne)).trans (hW k (.inl hr))
def IvP (T : Tl) (W : World) (R : Nat → Prop) (p hp : Nat) (la : Option Addr) (lc : Nat) (L : List (List KV)) (pa : Option Addr) (o : Option Nat) (W' : World) : Prop := ∃ R' : Nat → Prop, MgV T W' R' p L o ∧ (∀ k, R' k → R k ∨ k = hp ∨ blkOf pa = some k) ∧ Chg (fun k => k = p ∨ k = hp ∨ blkOf pa = some k) W W' ∧ W'.cell? ⟨p, 0, none⟩ = some (.slice la L.length lc)
set_option maxRecDepth 100000 in
set_option maxHeartbeats 2000000 in
theorem vtake_any (h : ItV T W R RL p la lc L x b (at_ hp)) (hd : Hd W B hp la L.length lc up pa pc ps last) (hr : ¬ RL hp) (hrp : ∀ k, blkOf pa = some k → ¬ RL k) (hg : Gp L up v L.length ps) (hc : CutL L v) :
    Calls Try.prog 33 #[at_ p] W fun e w' => e = .returned (.tuple #[]) ∧ IvP T W R p hp la lc L pa (afterT L v up) w' := by
  have x1 := h.box.cell 1
  have x2 := h.box.cell 2
  have x3 := h.box.cell 3
  have x4 := h.box.cell 4
  simp only [List.getElem?_toArray, List.getElem?_cons_succ, List.getElem?_cons_zero] at x1 x2 x3 x4
  have hne : hp ≠ p := tag_ne hd.box.tag h.box.tag (by decide)
  have hnp : ∀ k, blkOf pa = some k → k ≠ p := fun k hk => tag_ne (hd.row.tag hk) h.box.tag (by decide)
  have HH : Hid (ItV T W R RL p la lc L x b (at_ hp) ∧ Hd W B hp la L.length lc up pa pc ps last ∧ ¬ RL hp ∧ (∀ k, blkOf pa = some k → ¬ RL k) ∧ Gp L up v L.length ps ∧ CutL L v ∧ hp ≠ p ∧ (∀ k, blkOf pa = some k → k ≠ p)) := ⟨h, hd, hr, hrp, hg, hc, hne, hnp⟩
  have HCH : Hid (∀ w' : World, Chg (CHt pa hp) W w' → (∀ k, RL k ∨ k = p → w'.heap[k]? = W.heap[k]?) ∧ LsAt w' la L.length lc L) := fun w' hw => by
    have hk : ∀ k, RL k ∨ k = p → w'.heap[k]? = W.heap[k]? := fun k hk => hw.block k (by
      rcases hk with hk | hk
      · exact h.lt k (h.rl k hk)
      · exact h.lt k (hk ▸ h.rp.1)) (fun hch => by
      rcases hch with hch | hch
      · rcases hk with hk | hk
        · exact hrp k hch hk
        · exact hnp k hch hk
      · rcases hk with hk | hk
        · exact hr (hch ▸ hk)
        · exact hne (hch ▸ hk))
    exact ⟨hk, h.ls w' fun k hr => hk k (.inl hr)⟩
  have hpl := h.box.lt
  clear h hr hrp hc hg
  cases ps with
  | nil =>
    have htk := take_none hd
    clear hd
    go_enter Try.func33, Try.ntmps33
    go_wp2_with fail
    refine htk.mono ?_
    rintro _ w2 ⟨rfl, hd2, hc2⟩
    have hbx := HH.out.1.box.kept ((HCH.out w2 hc2).1 p (.inr rfl))
    have H2 : Hid (Hd w2 B hp la L.length lc up pa pc [] last ∧ Chg (CHt pa hp) W w2 ∧ Box w2 p TVw #[.slice la L.length lc, .int .i64 (x.1 : Int), .int .i64 (x.2 : Int), .bool b, at_ hp, T.sq, T.wb, T.ws, T.wp, T.ak, T.av, T.is]) := ⟨hd2, hc2, hbx⟩
    have y1 := hbx.cell 1
    have y2 := hbx.cell 2
    have y3 := hbx.cell 3
    have ys := hbx.soft
    simp only [List.getElem?_toArray, List.getElem?_cons_succ, List.getElem?_cons_zero] at y1 y2 y3
    have HF : Hid (IvP T W R p hp la lc L pa (afterT L v up) (itW w2 p d0 false)) := by
      have hno := after_none HH.out.2.2.2.2.1 HH.out.2.2.2.2.2.1
      have hit := HH.out.1.put (W' := w2) hc2.size (HCH.out w2 hc2).1 d0 false (RNew RL p hp pa) (fun k hk => by
        rcases hk with e | e | e | e
        · rw [e]; exact hbx.lt
        · exact Nat.lt_of_lt_of_le (HH.out.1.lt k (HH.out.1.rl k e)) hc2.size
        · rw [e]; exact hd2.box.lt
        · exact (hd2.row.ge e).2) (.inl rfl) (fun k hk => .inr (.inl hk))
      refine ⟨RNew RL p hp pa, ⟨RL, la, lc, d0, at_ hp, ?_, ?_⟩, fun k hk => ?_, ?_, ?_⟩
      · rw [hno]; exact hit
      · rw [hno]; intro i e; cases e
      · rcases hk with e | e | e | e
        · exact .inl (e ▸ HH.out.1.rp.1)
        · exact .inl (HH.out.1.rl k e)
        · exact .inr (.inl e)
        · exact .inr (.inr e)
      · refine (((hc2.wide fun k _ hk => ?_).set (p := p) (fun _ => .inl rfl) _ _).set (p := p) (fun _ => .inl rfl) _ _).set (p := p) (fun _ => .inl rfl) _ _
        rcases hk with e | e
        · exact .inr (.inr e)
        · exact .inr (.inl e)
      · exact hit.box.cell 0
    clear hd2 hc2 hbx htk
    unfold itW at HF
    go_wp2
    go_end0
    exact ⟨rfl, HF.out⟩
  | cons y t =>
    have htk := take_some (L := L) (v := v) hd (fun w' hw => (HCH.out w' hw).2) HH.out.2.2.2.2.2.1.le (few_each HH.out.1.few) HH.out.1.few.1 HH.out.2.2.2.2.1
    clear hd
    go_enter Try.func33, Try.ntmps33
    go_wp2_with fail
    refine htk.mono ?_
    rintro _ w2 ⟨qs, rfl, hd2, hc2, hg2⟩
    have hbx := HH.out.1.box.kept ((HCH.out w2 hc2).1 p (.inr rfl))
    have y1 := hbx.cell 1
    have y2 := hbx.cell 2
    have y3 := hbx.cell 3
    have ys := hbx.soft
    simp only [List.getElem?_toArray, List.getElem?_cons_succ, List.getElem?_cons_zero] at y1 y2 y3
    have HF : Hid (IvP T W R p hp la lc L pa (afterT L v up) (itW w2 p y true)) := by
      obtain ⟨j, hso, hat, hcu, hnx, hpv⟩ := after_some HH.out.2.2.2.2.1 HH.out.1.rise HH.out.2.2.2.2.2.1 (by simp)
      have hy : (y :: t).getD 0 d0 = y := rfl
      rw [hy] at hat hcu hnx hpv
      have hit := HH.out.1.put (W' := w2) hc2.size (HCH.out w2 hc2).1 y true (RNew RL p hp pa) (fun k hk => by
        rcases hk with e | e | e | e
        · rw [e]; exact hbx.lt
        · exact Nat.lt_of_lt_of_le (HH.out.1.lt k (HH.out.1.rl k e)) hc2.size
        · rw [e]; exact hd2.box.lt
        · exact (hd2.row.ge e).2) (.inl rfl) (fun k hk => .inr (.inl hk))
      refine ⟨RNew RL p hp pa, ⟨RL, la, lc, y, at_ hp, ?_, ?_⟩, fun k hk => ?_, ?_, ?_⟩
      · rw [hso]; exact hit
      · rw [hso]
        intro i e
        obtain rfl := Option.some.inj e
        exact ⟨up, hp, pa, pc, qs, _, rfl, (hd2.zero).itW HH.out.2.2.2.2.2.2.1 HH.out.2.2.2.2.2.2.2 y true, ⟨.inr (.inr (.inl rfl)), HH.out.2.2.1⟩, fun k hk => ⟨.inr (.inr (.inr hk)), HH.out.2.2.2.1 k hk⟩, hg2, hcu, hat, hnx, hpv⟩
      · rcases hk with e | e | e | e
        · exact .inl (e ▸ HH.out.1.rp.1)
        · exact .inl (HH.out.1.rl k e)
        · exact .inr (.inl e)
        · exact .inr (.inr e)
      · refine (((hc2.wide fun k _ hk => ?_).set (p := p) (fun _ => .inl rfl) _ _).set (p := p) (fun _ => .inl rfl) _ _).set (p := p) (fun _ => .inl rfl) _ _
        rcases hk with e | e
        · exact .inr (.inr e)
        · exact .inr (.inl e)
      · exact hit.box.cell 0
    clear hd2 hc2 hbx htk hg2
    unfold itW at HF
    go_wp2
    go_end0
    exact ⟨rfl, HF.out⟩
end
end Go.Proofs.Ytjoamhcehpjepab
/- Merge's iterator: start, First, Last, Seek. -/
namespace Go.Proofs.Ytjoamhcehpjepab
open Go.RowKit
set_option linter.unusedVariables false
set_option linter.unusedSimpArgs false
section
variable {W W' w : World} {R RL : Nat → Prop} {p B : Nat} {la : Option Addr} {lc : Nat} {L : List (List KV)} {x last : PlL} {b : Bool} {hv : Value} {i hp : Nat} {up : Bool} {pa : Option Addr} {pc : Nat} {ps : List PlL} {v : Nat → Nat} {o : Option Nat}
theorem It.heads (h : It W R RL p la lc L x b hv) (u : Value) : It (W.setCell ⟨p, 4, none⟩ u) R RL p la lc L x b u := ⟨(h.box.set 4 u).eq (by simp), fun k hk => by simpa using h.lt k hk, h.rp, h.rl, h.ls.kept fun k hr => Below.heap_setCell _ _ _ _ (fun e => h.rp.2 ((show k = p from e) ▸ hr)), h.rise, h.few⟩
theorem It.below (h : It W R RL p la lc L x b hv) (hb : Below W.heap.size W W') : It W' R RL p la lc L x b hv := h.kept hb.size fun k hk => hb.block k (h.lt k hk)
set_option maxRecDepth 100000 in
set_option maxHeartbeats 2000000 in
theorem start_any (h : It W R RL p la lc L x b hv) (hd : Hd W B hp la L.length lc up pa pc ps last) (hr : ¬ RL hp) (hrp : ∀ k, blkOf pa = some k → ¬ RL k) (hg : Gp L up v L.length ps) (hc : CutL L v) :
    Calls Try.prog 21 #[at_ p, at_ hp] W fun e w' => e = .returned (.tuple #[]) ∧ ItP W R p hp la lc L pa (afterT L v up) w' := by
  have x4 := h.box.cell 4
  simp only [List.getElem?_toArray, List.getElem?_cons_succ, List.getElem?_cons_zero] at x4
  have xs := h.box.soft
  have hne : hp ≠ p := tag_ne hd.box.tag h.box.tag (by decide)
  have hnp : ∀ k, blkOf pa = some k → k ≠ p := fun k hk => tag_ne (hd.row.tag hk) h.box.tag (by decide)
  have HT := ittake_any (h.heads (at_ hp)) (hd.kept (Below.heap_setCell _ _ _ _ hne) fun k hk => Below.heap_setCell _ _ _ _ (hnp k hk)) hr hrp hg hc
  clear h hd hr hrp hg hc hne hnp
  go_enter Try.func21, Try.ntmps21
  go_wp2_with fail
  refine HT.mono ?_
  rintro _ w2 ⟨rfl, R', h1, h2, h3, h4⟩
  have HF : Hid (ItP W R p hp la lc L pa (afterT L v up) w2) := ⟨R', h1, h2, ((Chg.refl (fun k => k = p ∨ k = hp ∨ blkOf pa = some k) W).set (p := p) (fun _ => .inl rfl) 4 (at_ hp)).andThen h3 fun _ _ e => e, h4⟩
  clear h1 h2 h3 h4
  go_wp2
  go_end0
  exact ⟨rfl, HF.out⟩
/-- Behind heads that were just laid. -/
theorem ItP.post {w1 : World} (h : ItP w1 R p hp la lc L pa o W') (hb : Below w.heap.size w w1) (hp1 : R p) (h1 : w.heap.size ≤ hp) (h2 : ∀ k, blkOf pa = some k → w.heap.size ≤ k) : MgPost Mg16 R p L o w W' := by
  obtain ⟨R', g1, g2, g3, g4⟩ := h
  refine ⟨R', g1, fun k hk => ?_, (Chg.of (R := R) hb).andThen g3 fun k hk hkk => ?_⟩
  · rcases g2 k hk with e | e | e
    · exact .inl e
    · exact .inr (e ▸ h1)
    · exact .inr (h2 k e)
  · rcases hkk with e | e | e
    · exact e ▸ hp1
    · omega
    · have := h2 k e; omega
theorem sum_zero (n : Nat) : sumV (fun _ => 0) n = 0 := by
  induction n with
  | zero => rfl
  | succ n ih => show sumV _ n + 0 = 0; rw [ih]
set_option maxRecDepth 100000 in
theorem none_any (a : Option Addr) (n c i : Nat) (w : World) : Calls Try.prog 23 #[.slice a n c, .int .i64 (i : Int)] w fun e w' => e = .returned (.int .i64 0) ∧ Below w.heap.size w w' := by
  go_enter Try.func23, Try.ntmps23
  go_wp2
  go_ret
  exact ⟨ret1 rfl, Below.refl _ _⟩
set_option maxRecDepth 100000 in
set_option maxHeartbeats 2000000 in
theorem first_16 (h : Mg16 w R p L o) : Calls Try.prog 14 #[at_ p] w fun e w' => e = .returned (.tuple #[]) ∧ MgPost Mg16 R p L (goP (allL L) 1 kvZ.1 o) w w' := by
  have hmf : ∀ (fn : Fn) (first cap : Array Value) (w : World), (Instr.makeFunc fn first cap).run Try.prog w = .ok (.func fn first cap) w := fun _ _ _ _ => rfl
  obtain ⟨RL, la, lc, x, hv, hit, _⟩ := h
  have HIT : Hid (It w R RL p la lc L x o.isSome hv) := hit
  have HO : Hid (∀ W, Below w.heap.size w W → Calls Try.prog 22 #[.slice la L.length lc, .func (.func 23) #[.slice la L.length lc] #[]] W fun e w' => OnP W la L.length lc true L (fun _ => 0) e w') := fun W hW => by
    have hb := hit.below hW
    refine on_any 23 (.slice la L.length lc) hb.ls.ls hb.few.1 (fun _ => Nat.zero_le _) (few_each hit.few) (fun W i => by kernel_rfl) (fun W2 hW2 i hi => ?_)
    refine (none_any _ _ _ _ _).mono ?_
    rintro _ w9 ⟨rfl, h9⟩
    exact ⟨rfl, h9⟩
  have HCUT : Hid (CutL L (fun _ => 0)) := cut_zero L
  have HA : Hid (afterT L (fun _ => 0) true = goP (allL L) 1 kvZ.1 o) := by
    show normO (allL L) (sumV (fun _ => 0) L.length) = _
    rw [sum_zero]; rfl
  have HX : Hid (∀ W, Below w.heap.size w W → W.cell? ⟨p, 0, none⟩ = some (.slice la L.length lc)) := fun W hW => (hit.box.kept (hW.block p hit.box.lt)).cell 0
  clear hit
  go_enter Try.func14, Try.ntmps14
  go_wp2_with fail
  have HB0 : Hid (Below w.heap.size w w.drew) := (Below.refl _ _).drew
  have x0 : w.drew.cell? ⟨p, 0, none⟩ = some (.slice la L.length lc) := HX.out _ HB0.out
  go_region_held3 (fun V => V.cell? ⟨p, 0, none⟩ = some (.slice la L.length lc)) (first | exact x0 | go_keep)
    (first
     | (go_at_call 22; refine (HO.out _ HB0.out).mono ?_; rintro _ vx ⟨hp, pa, pc, ps, rfl, hdx, hbx, hgx⟩
        have HKX : Hid (Below w.heap.size w vx ∧ w.heap.size ≤ hp ∧ (∀ j, blkOf pa = some j → w.heap.size ≤ j)) := ⟨HB0.out.trans (hbx.mono HB0.out.size), Nat.le_trans HB0.out.size hdx.ge, fun j hj => Nat.le_trans HB0.out.size (hdx.row.ge hj).1⟩
        have HON : Hid (Hd vx w.drew.heap.size hp la L.length lc true pa pc ps d0 ∧ Gp L true (fun _ => 0) L.length ps) := ⟨hdx, hgx⟩
        have x0 : vx.cell? ⟨p, 0, none⟩ = some (.slice la L.length lc) := HX.out _ HKX.out.1
        clear hdx hbx hgx)
     | (go_at_call 21; refine (start_any (HIT.out.below HKX.out.1) HON.out.1 (fun hr => by have := HIT.out.lt hp (HIT.out.rl hp hr); have := HKX.out.2.1; omega) (fun j hj hr => by have := HIT.out.lt j (HIT.out.rl j hr); have := HKX.out.2.2 j hj; omega) HON.out.2 HCUT.out).mono ?_; rintro _ vy ⟨rfl, hy⟩
        have HPO : Hid (MgPost Mg16 R p L (goP (allL L) 1 kvZ.1 o) w vy) := by
          rw [← HA.out]
          exact hy.post HKX.out.1 HIT.out.rp.1 HKX.out.2.1 HKX.out.2.2
        obtain ⟨_, _, _, _, hy0⟩ := hy
        have x0 : vy.cell? ⟨p, 0, none⟩ = some (.slice la L.length lc) := hy0
        clear hy0))
  go_wp2
  go_end0
  exact ⟨rfl, HPO.out⟩
set_option maxRecDepth 100000 in
set_option maxHeartbeats 2000000 in
theorem seek_16 (k : IK) (h : Mg16 w R p L o) : Calls Try.prog 27 #[at_ p, keyV k] w fun e w' => e = .returned (.tuple #[]) ∧ MgPost Mg16 R p L (goP (allL L) 3 k o) w w' := by
  have hmf : ∀ (fn : Fn) (first cap : Array Value) (w : World), (Instr.makeFunc fn first cap).run Try.prog w = .ok (.func fn first cap) w := fun _ _ _ _ => rfl
  obtain ⟨RL, la, lc, x, hv, hit, _⟩ := h
  have HIT : Hid (It w R RL p la lc L x o.isSome hv) := hit
  have HO : Hid (∀ W, Below w.heap.size w W → Calls Try.prog 22 #[.slice la L.length lc, .func (.func 41) #[.agg #[.slice la L.length lc, .string k.user, .int .u64 (k.seq : Int), .int .i64 k.kind, .int .i64 0]] #[]] W fun e w' => OnP W la L.length lc true L (gapV L k 0) e w') := fun W hW => by
    have hb := hit.below hW
    refine on_any 41 (.agg #[.slice la L.length lc, .string k.user, .int .u64 (k.seq : Int), .int .i64 k.kind, .int .i64 0]) hb.ls.ls hb.few.1 (gapV_le L k 0) (few_each hit.few) (fun W i => by kernel_rfl) (fun W2 hW2 i hi => ?_)
    exact cut_any ((hb.below hW2).ls.ls) hit.rise k 0 i hi (few_each hit.few i)
  have HCUT : Hid (CutL L (gapV L k 0)) := gap_cut hit.rise k 0
  have HA : Hid (afterT L (gapV L k 0) true = goP (allL L) 3 k o) := by
    show normO (allL L) (sumV (gapV L k 0) L.length) = _
    rw [gap_seek hit.rise]; rfl
  have HX : Hid (∀ W, Below w.heap.size w W → W.cell? ⟨p, 0, none⟩ = some (.slice la L.length lc)) := fun W hW => (hit.box.kept (hW.block p hit.box.lt)).cell 0
  clear hit
  have hkb := Box.new w 32 #[.string k.user, .int .u64 (k.seq : Int), .int .i64 k.kind]
  have HKB : Hid (Box (w.alloc (.cells #[.string k.user, .int .u64 (k.seq : Int), .int .i64 k.kind] 32)) w.heap.size 32 #[.string k.user, .int .u64 (k.seq : Int), .int .i64 k.kind] ∧ Below w.heap.size w (w.alloc (.cells #[.string k.user, .int .u64 (k.seq : Int), .int .i64 k.kind] 32)) ∧ (w.alloc (.cells #[.string k.user, .int .u64 (k.seq : Int), .int .i64 k.kind] 32)).heap.size = w.heap.size + 1) := ⟨hkb, (Below.refl _ _).alloc (Nat.le_refl _) _, by simp⟩
  have HX0 := HX.out _ HKB.out.2.1
  have k0 := hkb.cell 0
  have k1 := hkb.cell 1
  have k2 := hkb.cell 2
  simp only [List.getElem?_toArray, List.getElem?_cons_succ, List.getElem?_cons_zero] at k0 k1 k2
  clear hkb
  go_enter Try.func27, Try.ntmps27
  go_wp2_with fail
  generalize (w.alloc (.cells #[.string k.user, .int .u64 (k.seq : Int), .int .i64 k.kind] 32)) = w0 at HKB HX0 k0 k1 k2 ⊢
  have HB0 : Hid (Below w0.heap.size w0 w0.drew) := (Below.refl _ _).drew
  have x0 : w0.drew.cell? ⟨p, 0, none⟩ = some (.slice la L.length lc) := HX0
  have k0 : w0.drew.cell? ⟨w.heap.size, 0, none⟩ = some (.string k.user) := k0
  have k1 : w0.drew.cell? ⟨w.heap.size, 1, none⟩ = some (.int .u64 (k.seq : Int)) := k1
  have k2 : w0.drew.cell? ⟨w.heap.size, 2, none⟩ = some (.int .i64 k.kind) := k2
  go_region_held3 (fun V => V.cell? ⟨p, 0, none⟩ = some (.slice la L.length lc) ∧ V.cell? ⟨w.heap.size, 0, none⟩ = some (.string k.user) ∧ V.cell? ⟨w.heap.size, 1, none⟩ = some (.int .u64 (k.seq : Int)) ∧ V.cell? ⟨w.heap.size, 2, none⟩ = some (.int .i64 k.kind)) (first | exact ⟨x0, k0, k1, k2⟩ | go_keep)
    (first
     | (go_at_call 22; refine (HO.out _ (HKB.out.2.1.trans (HB0.out.mono (by have := HKB.out.2.2; omega)))).mono ?_; rintro _ vx ⟨hp, pa, pc, ps, rfl, hdx, hbx, hgx⟩
        have HKX : Hid (Box vx w.heap.size 32 #[.string k.user, .int .u64 (k.seq : Int), .int .i64 k.kind] ∧ Below w.heap.size w vx ∧ w.heap.size + 1 ≤ hp ∧ (∀ j, blkOf pa = some j → w.heap.size + 1 ≤ j)) := by
          have hb2 := HB0.out.trans (hbx.mono HB0.out.size)
          have e := HKB.out.2.2
          exact ⟨HKB.out.1.kept (hb2.block _ HKB.out.1.lt), HKB.out.2.1.trans (hb2.mono (by omega)), Nat.le_trans (by have := HB0.out.size; omega) hdx.ge, fun j hj => Nat.le_trans (by have := HB0.out.size; omega) (hdx.row.ge hj).1⟩
        have HON : Hid (Hd vx w0.drew.heap.size hp la L.length lc true pa pc ps d0 ∧ Gp L true (gapV L k 0) L.length ps) := ⟨hdx, hgx⟩
        have x0 : vx.cell? ⟨p, 0, none⟩ = some (.slice la L.length lc) := HX.out _ HKX.out.2.1
        have k0 : vx.cell? ⟨w.heap.size, 0, none⟩ = some (.string k.user) := HKX.out.1.cell 0
        have k1 : vx.cell? ⟨w.heap.size, 1, none⟩ = some (.int .u64 (k.seq : Int)) := HKX.out.1.cell 1
        have k2 : vx.cell? ⟨w.heap.size, 2, none⟩ = some (.int .i64 k.kind) := HKX.out.1.cell 2
        clear hdx hbx hgx)
     | (go_at_call 21; refine (start_any (HIT.out.below HKX.out.2.1) HON.out.1 (fun hr => by have := HIT.out.lt hp (HIT.out.rl hp hr); have := HKX.out.2.2.1; omega) (fun j hj hr => by have := HIT.out.lt j (HIT.out.rl j hr); have := HKX.out.2.2.2 j hj; omega) HON.out.2 HCUT.out).mono ?_; rintro _ vy ⟨rfl, hy⟩
        have HPO : Hid (MgPost Mg16 R p L (goP (allL L) 3 k o) w vy) := by
          rw [← HA.out]
          exact hy.post HKX.out.2.1 HIT.out.rp.1 (by have := HKX.out.2.2.1; omega) (fun j hj => by have := HKX.out.2.2.2 j hj; omega)
        obtain ⟨_, _, _, hcy, hy0⟩ := hy
        have hky := HKX.out.1.kept (hcy.block _ HKX.out.1.lt (fun hk => by
          rcases hk with e | e | e
          · have := HIT.out.box.lt; omega
          · have := HKX.out.2.2.1; omega
          · have := HKX.out.2.2.2 _ e; omega))
        have x0 : vy.cell? ⟨p, 0, none⟩ = some (.slice la L.length lc) := hy0
        have k0 : vy.cell? ⟨w.heap.size, 0, none⟩ = some (.string k.user) := hky.cell 0
        have k1 : vy.cell? ⟨w.heap.size, 1, none⟩ = some (.int .u64 (k.seq : Int)) := hky.cell 1
        have k2 : vy.cell? ⟨w.heap.size, 2, none⟩ = some (.int .i64 k.kind) := hky.cell 2
        clear hcy hy0 hky))
  go_wp2
  go_end0
  exact ⟨rfl, HPO.out⟩
end
end Go.Proofs.Ytjoamhcehpjepab
/- An iterator of a view: start, First, Last, Seek. -/
namespace Go.Proofs.Ytjoamhcehpjepab
open Go.RowKit
set_option linter.unusedVariables false
set_option linter.unusedSimpArgs false
section
variable {T : Tl} {W W' w : World} {R RL : Nat → Prop} {p B : Nat} {la : Option Addr} {lc : Nat} {L : List (List KV)} {x last : PlL} {b : Bool} {hv : Value} {i hp : Nat} {up : Bool} {pa : Option Addr} {pc : Nat} {ps : List PlL} {v : Nat → Nat} {o : Option Nat}
theorem ItV.heads (h : ItV T W R RL p la lc L x b hv) (u : Value) : ItV T (W.setCell ⟨p, 4, none⟩ u) R RL p la lc L x b u := ⟨(h.box.set 4 u).eq (by simp), fun k hk => by simpa using h.lt k hk, h.rp, h.rl, h.ls.kept fun k hr => Below.heap_setCell _ _ _ _ (fun e => h.rp.2 ((show k = p from e) ▸ hr)), h.rise, h.few⟩
theorem ItV.below (h : ItV T W R RL p la lc L x b hv) (hb : Below W.heap.size W W') : ItV T W' R RL p la lc L x b hv := h.kept hb.size fun k hk => hb.block k (h.lt k hk)
set_option maxRecDepth 100000 in
set_option maxHeartbeats 2000000 in
theorem vstart_any (h : ItV T W R RL p la lc L x b hv) (hd : Hd W B hp la L.length lc up pa pc ps last) (hr : ¬ RL hp) (hrp : ∀ k, blkOf pa = some k → ¬ RL k) (hg : Gp L up v L.length ps) (hc : CutL L v) :
    Calls Try.prog 21 #[at_ p, at_ hp] W fun e w' => e = .returned (.tuple #[]) ∧ IvP T W R p hp la lc L pa (afterT L v up) w' := by
  have x4 := h.box.cell 4
  simp only [List.getElem?_toArray, List.getElem?_cons_succ, List.getElem?_cons_zero] at x4
  have xs := h.box.soft
  have hne : hp ≠ p := tag_ne hd.box.tag h.box.tag (by decide)
  have hnp : ∀ k, blkOf pa = some k → k ≠ p := fun k hk => tag_ne (hd.row.tag hk) h.box.tag (by decide)
  have HT := vtake_any (h.heads (at_ hp)) (hd.kept (Below.heap_setCell _ _ _ _ hne) fun k hk => Below.heap_setCell _ _ _ _ (hnp k hk)) hr hrp hg hc
  clear h hd hr hrp hg hc hne hnp
  go_enter Try.func21, Try.ntmps21
  go_wp2_with fail
  refine HT.mono ?_
  rintro _ w2 ⟨rfl, R', h1, h2, h3, h4⟩
  have HF : Hid (IvP T W R p hp la lc L pa (afterT L v up) w2) := ⟨R', h1, h2, ((Chg.refl (fun k => k = p ∨ k = hp ∨ blkOf pa = some k) W).set (p := p) (fun _ => .inl rfl) 4 (at_ hp)).andThen h3 fun _ _ e => e, h4⟩
  clear h1 h2 h3 h4
  go_wp2
  go_end0
  exact ⟨rfl, HF.out⟩
/-- Behind heads that were just laid. -/
theorem IvP.post {w1 : World} (h : IvP T w1 R p hp la lc L pa o W') (hb : Below w.heap.size w w1) (hp1 : R p) (h1 : w.heap.size ≤ hp) (h2 : ∀ k, blkOf pa = some k → w.heap.size ≤ k) : MgPost (MgV T) R p L o w W' := by
  obtain ⟨R', g1, g2, g3, g4⟩ := h
  refine ⟨R', g1, fun k hk => ?_, (Chg.of (R := R) hb).andThen g3 fun k hk hkk => ?_⟩
  · rcases g2 k hk with e | e | e
    · exact .inl e
    · exact .inr (e ▸ h1)
    · exact .inr (h2 k e)
  · rcases hkk with e | e | e
    · exact e ▸ hp1
    · omega
    · have := h2 k e; omega
set_option maxRecDepth 100000 in
set_option maxHeartbeats 2000000 in
theorem first_v (h : MgV T w R p L o) : Calls Try.prog 14 #[at_ p] w fun e w' => e = .returned (.tuple #[]) ∧ MgPost (MgV T) R p L (goP (allL L) 1 kvZ.1 o) w w' := by
  have hmf : ∀ (fn : Fn) (first cap : Array Value) (w : World), (Instr.makeFunc fn first cap).run Try.prog w = .ok (.func fn first cap) w := fun _ _ _ _ => rfl
  obtain ⟨RL, la, lc, x, hv, hit, _⟩ := h
  have HIT : Hid (ItV T w R RL p la lc L x o.isSome hv) := hit
  have HO : Hid (∀ W, Below w.heap.size w W → Calls Try.prog 22 #[.slice la L.length lc, .func (.func 23) #[.slice la L.length lc] #[]] W fun e w' => OnP W la L.length lc true L (fun _ => 0) e w') := fun W hW => by
    have hb := hit.below hW
    refine on_any 23 (.slice la L.length lc) hb.ls.ls hb.few.1 (fun _ => Nat.zero_le _) (few_each hit.few) (fun W i => by kernel_rfl) (fun W2 hW2 i hi => ?_)
    refine (none_any _ _ _ _ _).mono ?_
    rintro _ w9 ⟨rfl, h9⟩
    exact ⟨rfl, h9⟩
  have HCUT : Hid (CutL L (fun _ => 0)) := cut_zero L
  have HA : Hid (afterT L (fun _ => 0) true = goP (allL L) 1 kvZ.1 o) := by
    show normO (allL L) (sumV (fun _ => 0) L.length) = _
    rw [sum_zero]; rfl
  have HX : Hid (∀ W, Below w.heap.size w W → W.cell? ⟨p, 0, none⟩ = some (.slice la L.length lc)) := fun W hW => (hit.box.kept (hW.block p hit.box.lt)).cell 0
  clear hit
  go_enter Try.func14, Try.ntmps14
  go_wp2_with fail
  have HB0 : Hid (Below w.heap.size w w.drew) := (Below.refl _ _).drew
  have x0 : w.drew.cell? ⟨p, 0, none⟩ = some (.slice la L.length lc) := HX.out _ HB0.out
  go_region_held3 (fun V => V.cell? ⟨p, 0, none⟩ = some (.slice la L.length lc)) (first | exact x0 | go_keep)
    (first
     | (go_at_call 22; refine (HO.out _ HB0.out).mono ?_; rintro _ vx ⟨hp, pa, pc, ps, rfl, hdx, hbx, hgx⟩
        have HKX : Hid (Below w.heap.size w vx ∧ w.heap.size ≤ hp ∧ (∀ j, blkOf pa = some j → w.heap.size ≤ j)) := ⟨HB0.out.trans (hbx.mono HB0.out.size), Nat.le_trans HB0.out.size hdx.ge, fun j hj => Nat.le_trans HB0.out.size (hdx.row.ge hj).1⟩
        have HON : Hid (Hd vx w.drew.heap.size hp la L.length lc true pa pc ps d0 ∧ Gp L true (fun _ => 0) L.length ps) := ⟨hdx, hgx⟩
        have x0 : vx.cell? ⟨p, 0, none⟩ = some (.slice la L.length lc) := HX.out _ HKX.out.1
        clear hdx hbx hgx)
     | (go_at_call 21; refine (vstart_any (HIT.out.below HKX.out.1) HON.out.1 (fun hr => by have := HIT.out.lt hp (HIT.out.rl hp hr); have := HKX.out.2.1; omega) (fun j hj hr => by have := HIT.out.lt j (HIT.out.rl j hr); have := HKX.out.2.2 j hj; omega) HON.out.2 HCUT.out).mono ?_; rintro _ vy ⟨rfl, hy⟩
        have HPO : Hid (MgPost (MgV T) R p L (goP (allL L) 1 kvZ.1 o) w vy) := by
          rw [← HA.out]
          exact hy.post HKX.out.1 HIT.out.rp.1 HKX.out.2.1 HKX.out.2.2
        obtain ⟨_, _, _, _, hy0⟩ := hy
        have x0 : vy.cell? ⟨p, 0, none⟩ = some (.slice la L.length lc) := hy0
        clear hy0))
  go_wp2
  go_end0
  exact ⟨rfl, HPO.out⟩
set_option maxRecDepth 100000 in
set_option maxHeartbeats 2000000 in
theorem seek_v (k : IK) (h : MgV T w R p L o) : Calls Try.prog 27 #[at_ p, keyV k] w fun e w' => e = .returned (.tuple #[]) ∧ MgPost (MgV T) R p L (goP (allL L) 3 k o) w w' := by
  have hmf : ∀ (fn : Fn) (first cap : Array Value) (w : World), (Instr.makeFunc fn first cap).run Try.prog w = .ok (.func fn first cap) w := fun _ _ _ _ => rfl
  obtain ⟨RL, la, lc, x, hv, hit, _⟩ := h
  have HIT : Hid (ItV T w R RL p la lc L x o.isSome hv) := hit
  have HO : Hid (∀ W, Below w.heap.size w W → Calls Try.prog 22 #[.slice la L.length lc, .func (.func 41) #[.agg #[.slice la L.length lc, .string k.user, .int .u64 (k.seq : Int), .int .i64 k.kind, .int .i64 0]] #[]] W fun e w' => OnP W la L.length lc true L (gapV L k 0) e w') := fun W hW => by
    have hb := hit.below hW
    refine on_any 41 (.agg #[.slice la L.length lc, .string k.user, .int .u64 (k.seq : Int), .int .i64 k.kind, .int .i64 0]) hb.ls.ls hb.few.1 (gapV_le L k 0) (few_each hit.few) (fun W i => by kernel_rfl) (fun W2 hW2 i hi => ?_)
    exact cut_any ((hb.below hW2).ls.ls) hit.rise k 0 i hi (few_each hit.few i)
  have HCUT : Hid (CutL L (gapV L k 0)) := gap_cut hit.rise k 0
  have HA : Hid (afterT L (gapV L k 0) true = goP (allL L) 3 k o) := by
    show normO (allL L) (sumV (gapV L k 0) L.length) = _
    rw [gap_seek hit.rise]; rfl
  have HX : Hid (∀ W, Below w.heap.size w W → W.cell? ⟨p, 0, none⟩ = some (.slice la L.length lc)) := fun W hW => (hit.box.kept (hW.block p hit.box.lt)).cell 0
  clear hit
  have hkb := Box.new w 32 #[.string k.user, .int .u64 (k.seq : Int), .int .i64 k.kind]
  have HKB : Hid (Box (w.alloc (.cells #[.string k.user, .int .u64 (k.seq : Int), .int .i64 k.kind] 32)) w.heap.size 32 #[.string k.user, .int .u64 (k.seq : Int), .int .i64 k.kind] ∧ Below w.heap.size w (w.alloc (.cells #[.string k.user, .int .u64 (k.seq : Int), .int .i64 k.kind] 32)) ∧ (w.alloc (.cells #[.string k.user, .int .u64 (k.seq : Int), .int .i64 k.kind] 32)).heap.size = w.heap.size + 1) := ⟨hkb, (Below.refl _ _).alloc (Nat.le_refl _) _, by simp⟩
  have HX0 := HX.out _ HKB.out.2.1
  have k0 := hkb.cell 0
  have k1 := hkb.cell 1
  have k2 := hkb.cell 2
  simp only [List.getElem?_toArray, List.getElem?_cons_succ, List.getElem?_cons_zero] at k0 k1 k2
  clear hkb
  go_enter Try.func27, Try.ntmps27
  go_wp2_with fail
  generalize (w.alloc (.cells #[.string k.user, .int .u64 (k.seq : Int), .int .i64 k.kind] 32)) = w0 at HKB HX0 k0 k1 k2 ⊢
  have HB0 : Hid (Below w0.heap.size w0 w0.drew) := (Below.refl _ _).drew
  have x0 : w0.drew.cell? ⟨p, 0, none⟩ = some (.slice la L.length lc) := HX0
  have k0 : w0.drew.cell? ⟨w.heap.size, 0, none⟩ = some (.string k.user) := k0
  have k1 : w0.drew.cell? ⟨w.heap.size, 1, none⟩ = some (.int .u64 (k.seq : Int)) := k1
  have k2 : w0.drew.cell? ⟨w.heap.size, 2, none⟩ = some (.int .i64 k.kind) := k2
  go_region_held3 (fun V => V.cell? ⟨p, 0, none⟩ = some (.slice la L.length lc) ∧ V.cell? ⟨w.heap.size, 0, none⟩ = some (.string k.user) ∧ V.cell? ⟨w.heap.size, 1, none⟩ = some (.int .u64 (k.seq : Int)) ∧ V.cell? ⟨w.heap.size, 2, none⟩ = some (.int .i64 k.kind)) (first | exact ⟨x0, k0, k1, k2⟩ | go_keep)
    (first
     | (go_at_call 22; refine (HO.out _ (HKB.out.2.1.trans (HB0.out.mono (by have := HKB.out.2.2; omega)))).mono ?_; rintro _ vx ⟨hp, pa, pc, ps, rfl, hdx, hbx, hgx⟩
        have HKX : Hid (Box vx w.heap.size 32 #[.string k.user, .int .u64 (k.seq : Int), .int .i64 k.kind] ∧ Below w.heap.size w vx ∧ w.heap.size + 1 ≤ hp ∧ (∀ j, blkOf pa = some j → w.heap.size + 1 ≤ j)) := by
          have hb2 := HB0.out.trans (hbx.mono HB0.out.size)
          have e := HKB.out.2.2
          exact ⟨HKB.out.1.kept (hb2.block _ HKB.out.1.lt), HKB.out.2.1.trans (hb2.mono (by omega)), Nat.le_trans (by have := HB0.out.size; omega) hdx.ge, fun j hj => Nat.le_trans (by have := HB0.out.size; omega) (hdx.row.ge hj).1⟩
        have HON : Hid (Hd vx w0.drew.heap.size hp la L.length lc true pa pc ps d0 ∧ Gp L true (gapV L k 0) L.length ps) := ⟨hdx, hgx⟩
        have x0 : vx.cell? ⟨p, 0, none⟩ = some (.slice la L.length lc) := HX.out _ HKX.out.2.1
        have k0 : vx.cell? ⟨w.heap.size, 0, none⟩ = some (.string k.user) := HKX.out.1.cell 0
        have k1 : vx.cell? ⟨w.heap.size, 1, none⟩ = some (.int .u64 (k.seq : Int)) := HKX.out.1.cell 1
        have k2 : vx.cell? ⟨w.heap.size, 2, none⟩ = some (.int .i64 k.kind) := HKX.out.1.cell 2
        clear hdx hbx hgx)
     | (go_at_call 21; refine (vstart_any (HIT.out.below HKX.out.2.1) HON.out.1 (fun hr => by have := HIT.out.lt hp (HIT.out.rl hp hr); have := HKX.out.2.2.1; omega) (fun j hj hr => by have := HIT.out.lt j (HIT.out.rl j hr); have := HKX.out.2.2.2 j hj; omega) HON.out.2 HCUT.out).mono ?_; rintro _ vy ⟨rfl, hy⟩
        have HPO : Hid (MgPost (MgV T) R p L (goP (allL L) 3 k o) w vy) := by
          rw [← HA.out]
          exact hy.post HKX.out.2.1 HIT.out.rp.1 (by have := HKX.out.2.2.1; omega) (fun j hj => by have := HKX.out.2.2.2 j hj; omega)
        obtain ⟨_, _, _, hcy, hy0⟩ := hy
        have hky := HKX.out.1.kept (hcy.block _ HKX.out.1.lt (fun hk => by
          rcases hk with e | e | e
          · have := HIT.out.box.lt; omega
          · have := HKX.out.2.2.1; omega
          · have := HKX.out.2.2.2 _ e; omega))
        have x0 : vy.cell? ⟨p, 0, none⟩ = some (.slice la L.length lc) := hy0
        have k0 : vy.cell? ⟨w.heap.size, 0, none⟩ = some (.string k.user) := hky.cell 0
        have k1 : vy.cell? ⟨w.heap.size, 1, none⟩ = some (.int .u64 (k.seq : Int)) := hky.cell 1
        have k2 : vy.cell? ⟨w.heap.size, 2, none⟩ = some (.int .i64 k.kind) := hky.cell 2
        clear hcy hy0 hky))
  go_wp2
  go_end0
  exact ⟨rfl, HPO.out⟩
end
end Go.Proofs.Ytjoamhcehpjepab
/- Merge's iterator: At. -/
namespace Go.Proofs.Ytjoamhcehpjepab
open Go.RowKit
set_option linter.unusedVariables false
set_option linter.unusedSimpArgs false
section
variable {W W' w : World} {R RL : Nat → Prop} {p B : Nat} {la : Option Addr} {lc : Nat} {L : List (List KV)} {x last : PlL} {b : Bool} {hv : Value} {i hp : Nat} {up : Bool} {pa : Option Addr} {pc : Nat} {ps : List PlL} {v : Nat → Nat} {o : Option Nat}
theorem mg_below (h : Mg16 w R p L o) (hb : Below w.heap.size w W') : MgPost Mg16 R p L o w W' := ⟨R, mg_kept h hb.size fun k hk => hb.block k (mg_lt h k hk), fun k hk => .inl hk, Chg.of hb⟩
theorem told_at (h : (allP L)[i]? = some x) : told16 (allL L) (some i) = (entL L x, true) := by
  unfold told16 allL
  simp [List.getD, h]
abbrev putK (W : World) (q : Nat) (e : KV) : World := (((W.setCell ⟨q, 0, none⟩ (.string e.1.user)).setCell ⟨q, 1, none⟩ (.int .u64 (e.1.seq : Int))).setCell ⟨q, 2, none⟩ (.int .i64 e.1.kind)).setCell ⟨q, 3, none⟩ (.string e.2)
abbrev kvz4 : Array Value := #[.string ⟨#[]⟩, .int .u64 0, .int .i64 0, .string ⟨#[]⟩]
theorem putK_other {W : World} {q r : Nat} {t : TypeId} {arr : Array Value} {e : KV} (h : Box W r t arr) (hn : r ≠ q) : Box (putK W q e) r t arr := (((h.other hn _ _).other hn _ _).other hn _ _).other hn _ _
theorem putK_box {W : World} {q : Nat} {e : KV} (h : Box W q TKV kvz4) : Box (putK W q e) q TKV #[.string e.1.user, .int .u64 (e.1.seq : Int), .int .i64 e.1.kind, .string e.2] := ((((h.set 0 _).set 1 _).set 2 _).set 3 _).eq (by simp)
set_option maxRecDepth 100000 in
set_option maxHeartbeats 2000000 in
theorem at_16 (h : Mg16 w R p L o) : Calls Try.prog 37 #[at_ p] w fun e w' => e = .returned (.tuple #[kvV (told16 (allL L) o).1, .bool (told16 (allL L) o).2]) ∧ MgPost Mg16 R p L o w w' := by
  have HM : Hid (Mg16 w R p L o) := h
  obtain ⟨RL, la, lc, x, hv, hit, hso⟩ := h
  have x3 := hit.box.cell 3
  simp only [List.getElem?_toArray, List.getElem?_cons_succ, List.getElem?_cons_zero] at x3
  have hpl := hit.box.lt
  cases o with
  | none =>
    have x3 : w.cell? ⟨p, 3, none⟩ = some (.bool false) := x3
    have HF : Hid (MgPost Mg16 R p L none w (w.alloc (.cells kvz4 TKV))) := mg_below HM.out ((Below.refl _ _).alloc (Nat.le_refl _) _)
    clear hit hso
    go_enter Try.func37, Try.ntmps37
    go_wp2
    exact bodyPost_ret (v := .tuple #[.agg kvz4, .bool false]) (by simp [results, Try.results37, go_sem]) rfl ⟨rfl, HF.out⟩
  | some i =>
    obtain ⟨up, hp, pa, pc, ps, v, rfl, hs⟩ := hso i rfl
    have x3 : w.cell? ⟨p, 3, none⟩ = some (.bool true) := x3
    have hval : x.1 < L.length ∧ x.2 < lenL L x.1 := by
      have h1 : validL L x := mem_allP.1 (List.mem_of_getElem? hs.at')
      have h2 : x.2 < lenL L x.1 := h1
      refine ⟨?_, h2⟩
      apply Classical.byContradiction
      intro hn
      rw [lenL_out (L := L) (i := x.1) (by omega)] at h2
      omega
    have HIT : Hid (It w R RL p la lc L x true (at_ hp)) := hit
    have hq := Box.new w TKV kvz4
    have HW1 : Hid (Below w.heap.size w (w.alloc (.cells kvz4 TKV)) ∧ Box (w.alloc (.cells kvz4 TKV)) w.heap.size TKV kvz4 ∧ (w.alloc (.cells kvz4 TKV)).heap.size = w.heap.size + 1) := ⟨(Below.refl _ _).alloc (Nat.le_refl _) _, hq, by simp⟩
    have HT : Hid (told16 (allL L) (some i) = (entL L x, true)) := told_at hs.at'
    have HX : Hid (∀ W, Below w.heap.size w W → W.cell? ⟨p, 0, none⟩ = some (.slice la L.length lc) ∧ W.cell? ⟨p, 1, none⟩ = some (.int .i64 (x.1 : Int)) ∧ W.cell? ⟨p, 2, none⟩ = some (.int .i64 (x.2 : Int))) := fun W hW => by
      have hb := hit.box.kept (hW.block p hit.box.lt)
      exact ⟨hb.cell 0, hb.cell 1, hb.cell 2⟩
    have HE : Hid (∀ W, Below w.heap.size w W → Calls Try.prog 40 #[.slice la L.length lc, .agg #[.int .i64 (x.1 : Int), .int .i64 (x.2 : Int)]] W fun e w' => e = .returned (.agg #[.string (entL L x).1.user, .int .u64 ((entL L x).1.seq : Int), .int .i64 (entL L x).1.kind, .string (entL L x).2]) ∧ Below W.heap.size W w') := fun W hW => entry_any (i := x.1) (j := x.2) ((hit.below hW).ls.ls) hval.1 hval.2
    clear hit hso hs hval hq
    generalize entL L x = en at HE HT
    go_enter Try.func37, Try.ntmps37
    go_wp2_with fail
    generalize w.alloc (.cells kvz4 TKV) = w1 at HW1 ⊢
    have HB0 : Hid (Below w1.heap.size w1 w1.drew) := (Below.refl _ _).drew
    obtain ⟨y0, y1, y2⟩ := HX.out _ HW1.out.1.drew
    go_region_held3 (fun V => V.cell? ⟨p, 0, none⟩ = some (.slice la L.length lc) ∧ V.cell? ⟨p, 1, none⟩ = some (.int .i64 (x.1 : Int)) ∧ V.cell? ⟨p, 2, none⟩ = some (.int .i64 (x.2 : Int))) (first | with_reducible exact ⟨y0, y1, y2⟩ | exact HST.out | go_keep)
      (first
       | (go_at_call 40; refine (HE.out _ HW1.out.1.drew).mono ?_; rintro _ vx ⟨rfl, hbx⟩
          have HB2 : Hid (Below w.heap.size w vx ∧ Box vx w.heap.size TKV kvz4) := by
            have hb2 := HB0.out.trans (hbx.mono HB0.out.size)
            exact ⟨HW1.out.1.trans (hb2.mono (by have := HW1.out.2.2; omega)), HW1.out.2.1.kept (hb2.block _ HW1.out.2.1.lt)⟩
          have HST : Hid ((putK vx w.heap.size en).cell? ⟨p, 0, none⟩ = some (.slice la L.length lc) ∧ (putK vx w.heap.size en).cell? ⟨p, 1, none⟩ = some (.int .i64 (x.1 : Int)) ∧ (putK vx w.heap.size en).cell? ⟨p, 2, none⟩ = some (.int .i64 (x.2 : Int))) := by
            have hb := putK_other (e := en) (HIT.out.box.kept (HB2.out.1.block p HIT.out.box.lt)) (show p ≠ w.heap.size by omega)
            exact ⟨hb.cell 0, hb.cell 1, hb.cell 2⟩
          obtain ⟨y0, y1, y2⟩ := HX.out _ HB2.out.1
          have q0 := HB2.out.2.cell 0
          have q1 := HB2.out.2.cell 1
          have q2 := HB2.out.2.cell 2
          have q3 := HB2.out.2.cell 3
          simp only [List.getElem?_toArray, List.getElem?_cons_succ, List.getElem?_cons_zero] at q0 q1 q2 q3
          have qs := HB2.out.2.soft
          clear hbx))
    have HF : Hid (MgPost Mg16 R p L (some i) w (putK vx w.heap.size en)) := mg_below HM.out ((((HB2.out.1.setCell (p := ⟨w.heap.size, 0, none⟩) (Nat.le_refl _) _).setCell (p := ⟨w.heap.size, 1, none⟩) (Nat.le_refl _) _).setCell (p := ⟨w.heap.size, 2, none⟩) (Nat.le_refl _) _).setCell (p := ⟨w.heap.size, 3, none⟩) (Nat.le_refl _) _)
    have hbk := putK_box (e := en) HB2.out.2
    clear q0 q1 q2 q3 qs y0 y1 y2 HST
    unfold putK at HF hbk
    generalize (((vx.setCell ⟨w.heap.size, 0, none⟩ (.string en.1.user)).setCell ⟨w.heap.size, 1, none⟩ (.int .u64 (en.1.seq : Int))).setCell ⟨w.heap.size, 2, none⟩ (.int .i64 en.1.kind)).setCell ⟨w.heap.size, 3, none⟩ (.string en.2) = W4 at HF hbk ⊢
    have r0 := hbk.cell 0
    have r1 := hbk.cell 1
    have r2 := hbk.cell 2
    have r3 := hbk.cell 3
    simp only [List.getElem?_toArray, List.getElem?_cons_succ, List.getElem?_cons_zero] at r0 r1 r2 r3
    go_wp2
    exact bodyPost_ret (v := .tuple #[.agg #[.string en.1.user, .int .u64 (en.1.seq : Int), .int .i64 en.1.kind, .string en.2], .bool true]) (by simp [results, Try.results37, go_sem, r0, r1, r2, r3]) rfl ⟨by rw [HT.out]; rfl, HF.out⟩
end
end Go.Proofs.Ytjoamhcehpjepab
