/- The contract of lay. -/
import Derived.Test.YtnggajconglfcaaDoorS7Laid
import Derived.Test.YtnggajconglfcaaDoorS7LayRaw
import Derived.Test.YtnggajconglfcaaDoorPdPass
namespace Go.Proofs.YtnggajconglfcaaDoor
open Go.RowKit
set_option linter.unusedVariables false
theorem lnk_ptr (g : SG) (a : Option Nat) : ∃ u, lnk g a = .pointer u := by
  cases a
  · exact ⟨_, rfl⟩
  · exact ⟨_, rfl⟩
theorem plc_eta (p : Nat) (g : SG) (a : Nat) : plc p g a = ⟨(plc p g a).block, (plc p g a).off, none⟩ := by cases a <;> rfl
section
variable {w : World} {p : Nat} {S : PS} {g : SG} {i : Nat}
theorem SkAt.plcNe (h : SkAt w p S g) (hi : i < S.ops.length) (h3 : (S.op i).ph ≠ 3) : (plc p g (S.op i).pos).block ≠ g.n i := by
  have h8 := ((h.inv.ok i hi).low h3).1
  have hni := h.inv.notIn hi h3
  rcases ((h.inv.ok i hi).pos h3).inL with e | ⟨k, e, hk'⟩
  · rw [e]
    exact tag_ne h.head.tag (h.nodeTag hi) (by decide)
  · rw [e]
    intro e'
    exact hni ((h.inj (h.inv.lt h8 hk') hi e') ▸ hk')
theorem Foot.n {p : Nat} {g : SG} {i : Nat} (hi : i < g.nb.length) : Foot p g (g.n i) := .inr (.inl (SG.n_mem hi))
theorem Foot.o {p : Nat} {g : SG} {i : Nat} (hi : i < g.ob.length) : Foot p g (g.o i) := .inr (.inr (.inl (SG.o_mem hi)))
theorem SkAt.plcFoot (h : SkAt w p S g) {l a : Nat} (hl : l < 8) (ha : InL (S.lev l) a) : Foot p g (plc p g a).block := by
  rcases ha with rfl | ⟨k, rfl, hk'⟩
  · exact .inl rfl
  · exact Foot.n (by rw [h.nlen]; exact h.inv.lt hl hk')
set_option maxRecDepth 100000 in
set_option maxHeartbeats 1000000 in
theorem lay_at (h : SkAt w p S g) (hi : i < S.ops.length) (h1 : (S.op i).ph = 1) : Calls Tryd.prog 82 #[at_ (g.o i)] w fun e w' => e = .returned (.tuple #[]) ∧ SkAt w' p (S.step i) g ∧ Chg (Foot p g) w w' := by
  have h3 : (S.op i).ph ≠ 3 := by omega
  obtain ⟨ah, hah, hb⟩ := h.opOpen hi h3
  have ok := h.inv.ok i hi
  have h8 := (ok.low h3).1
  have hni := h.inv.notIn hi h3
  have hin := (ok.pos h3).inL
  have hno := tag_ne (h.nodeTag hi) (h.opTag hi) (by decide)
  obtain ⟨hs1, hown⟩ := h.setOwn hi h8 hni (lnk g (S.op i).seen)
  have hlink := hs1.link h8 hin
  have hsoft := hs1.linkSoft h8 hin
  have hcmp := lnk_neq hs1 (a := nxt (S.lev (S.op i).level) (S.op i).pos) (b := (S.op i).seen) (fun j hj => h.inv.lt h8 (nxt_mem hj)) ok.sight
  obtain ⟨u0, hu0⟩ := lnk_ptr g (nxt (S.lev (S.op i).level) (S.op i).pos)
  obtain ⟨u1, hu1⟩ := lnk_ptr g (S.op i).seen
  obtain ⟨v, _, hnb⟩ := h.node i hi
  have hoc := hnb.cell (1 + (S.op i).level)
  rw [nodeArr_at h8] at hoc
  have hof := hnb.soft (1 + (S.op i).level)
  have hpo := h.plcNe hi h3
  have hpq : (plc p g (S.op i).pos).block ≠ g.o i := by
    rcases h.plcTag h8 hin with e | e
    · exact tag_ne e (h.opTag hi) (by decide)
    · exact tag_ne e (h.opTag hi) (by decide)
  have hfo : Foot p g (g.o i) := Foot.o (by rw [h.olen]; exact hi)
  have hfn : Foot p g (g.n i) := Foot.n (by rw [h.nlen]; exact hi)
  have hfp : Foot p g (plc p g (S.op i).pos).block := h.plcFoot h8 hin
  have hcmp' : ∀ w2 : World, w2.heap = (w.setCell ⟨g.n i, 1 + (S.op i).level, none⟩ (.pointer u1)).heap → (binOp .neq 87 (.pointer u0) (.pointer u1)).run Tryd.prog w2 = .ok (.bool (!decide (S.nx i = (S.op i).seen))) w2 := fun w2 hw => by
    have hs2 : SkAt w2 p S g := hs1.keep fun k _ => by rw [hw, ← hu1]
    have := lnk_neq hs2 (a := nxt (S.lev (S.op i).level) (S.op i).pos) (b := (S.op i).seen) (fun j hj => h.inv.lt h8 (nxt_mem hj)) ok.sight
    rw [hu0, hu1] at this
    exact this
  have hbb : Box w (g.o i) TO (OC.arr ⟨at_ (g.n i), (S.op i).height, (S.op i).level, ⟨(plc p g (S.op i).pos).block, (plc p g (S.op i).pos).off, none⟩, .pointer u1, ah, nextV (g.o i) (S.op i).ph⟩) := by
    rw [← hu1, ← plc_eta]
    exact hb
  rw [hu0, hu1] at hlink
  rw [hu1] at hsoft
  have step0 : S.step i = if S.nx i = (S.op i).seen then (if (S.op i).level + 1 = (S.op i).height then S.put i (S.ended i) (S.more i) else S.put i (S.climbs i) (S.more i)) else S.put i (S.missed i) S.lev := by
    unfold PS.step
    rw [if_neg (by omega), if_pos h1]
  have c1 : Chg (Foot p g) w (w.setCell ⟨g.n i, 1 + (S.op i).level, none⟩ (.pointer u1)) := (Chg.refl _ _).set (fun _ => hfn) _ _
  by_cases hn : S.nx i = (S.op i).seen
  · rw [step0, if_pos hn]
    simp only [hn, decide_true, Bool.not_true] at hcmp'
    have c2 : Chg (Foot p g) w ((w.setCell ⟨g.n i, 1 + (S.op i).level, none⟩ (.pointer u1)).setCell ⟨(plc p g (S.op i).pos).block, (plc p g (S.op i).pos).off + 1 + (S.op i).level, none⟩ (at_ (g.n i))) := c1.set (fun _ => hfp) _ _
    have hbw : ∀ w2 : World, w2.heap = ((w.setCell ⟨g.n i, 1 + (S.op i).level, none⟩ (.pointer u1)).setCell ⟨(plc p g (S.op i).pos).block, (plc p g (S.op i).pos).off + 1 + (S.op i).level, none⟩ (at_ (g.n i))).heap → Box w2 (g.o i) TO (OC.arr ⟨at_ (g.n i), (S.op i).height, (S.op i).level, ⟨(plc p g (S.op i).pos).block, (plc p g (S.op i).pos).off, none⟩, .pointer u1, ah, nextV (g.o i) (S.op i).ph⟩) := fun w2 hw => by
      have := ((hbb.other (fun e => hno e.symm) (1 + (S.op i).level) (.pointer u1)).other (fun e => hpq e.symm) ((plc p g (S.op i).pos).off + 1 + (S.op i).level) (at_ (g.n i)))
      exact this.kept (by rw [hw])
    have hown' : (w.setCell ⟨g.n i, 1 + (S.op i).level, none⟩ (lnk g (S.op i).seen)).cell? ⟨g.n i, 1 + (S.op i).level, none⟩ = some (lnk g (S.nx i)) := by rw [hn]; exact hown
    by_cases hl : (S.op i).level + 1 = (S.op i).height
    · rw [if_pos hl]
      refine (lay_yes hbb h8 hoc hof hno hpo hpq hlink (hsoft _) (fun w2 hw => climb_end (hbw w2 hw) h8 hl) hcmp').mono ?_
      rintro e w' ⟨rfl, hb', hc'⟩
      refine ⟨rfl, ?_, c2.andThen hc' (fun k _ e => e ▸ hfo)⟩
      refine hs1.laid hi h1 hown' (by rw [hu1]; exact hc') (h.inv.ended hi h1 hn hl) rfl ?_
      unfold OpIs
      rw [if_pos (by simp [PS.ended])]
      exact hb'
    · rw [if_neg hl]
      have hlh := (ok.low h3).2 (by omega)
      have hhi := ok.high
      have ha := hah ((S.op i).level + 1) (by omega) (by omega)
      rw [plc_eta] at ha
      refine (lay_yes hbb h8 hoc hof hno hpo hpq hlink (hsoft _) (fun w2 hw => climb_on (hbw w2 hw) (by omega) hhi.2 hl ha) hcmp').mono ?_
      rintro e w' ⟨rfl, hb', hc'⟩
      refine ⟨rfl, ?_, c2.andThen hc' (fun k _ e => e ▸ hfo)⟩
      refine hs1.laid hi h1 hown' (by rw [hu1]; exact hc') (h.inv.climbs hi h1 hn hl) rfl (OpIs.mk (by simp [PS.climbs]) ah (fun l h1 h2 => hah l (by simp only [PS.climbs] at h1; omega) h2) ?_)
      rw [← hu1, ← plc_eta] at hb'
      exact hb'
  · rw [step0, if_neg hn]
    simp only [hn, decide_false, Bool.not_false] at hcmp'
    refine (lay_no hbb h8 hoc hof hno hpo hlink (hsoft _) hcmp').mono ?_
    rintro e w' ⟨rfl, hb', hc'⟩
    refine ⟨rfl, ?_, c1.andThen hc' (fun k _ e => e ▸ hfo)⟩
    rw [← hu1] at hc' hb'
    refine hs1.setOp hi hc' (h.inv.missed hi h1) rfl (OpIs.mk (by simp [PS.missed]) ah hah ?_)
    rw [← plc_eta] at hb'
    exact hb'
end
end Go.Proofs.YtnggajconglfcaaDoor
