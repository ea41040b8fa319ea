/- The contracts of descend and look. -/
import Derived.Test.YtnggajconglfcaaDoorS7Set
import Derived.Laws.EntriesVeiled
namespace Go.Proofs.YtnggajconglfcaaDoor
open Go.RowKit
set_option linter.unusedVariables false
theorem mk_func (fn : Fn) (first cap : Array Value) (w : World) : (Instr.makeFunc fn first cap).run Tryd.prog w = .ok (.func fn first cap) w := rfl
theorem SkAt.opOpen {w : World} {p : Nat} {S : PS} {g : SG} {i : Nat} (h : SkAt w p S g) (hi : i < S.ops.length) (h3 : (S.op i).ph ≠ 3) : ∃ ah : Nat → Value, (∀ l, (S.op i).level < l → l < 8 → ah l = .pointer (some (plc p g ((S.op i).ahead l)))) ∧ Box w (g.o i) TO (OC.arr ⟨at_ (g.n i), (S.op i).height, (S.op i).level, plc p g (S.op i).pos, lnk g (S.op i).seen, ah, nextV (g.o i) (S.op i).ph⟩) := by
  have := h.op i hi
  unfold OpIs at this
  rw [if_neg h3] at this
  exact this
theorem OpIs.mk {w : World} {p : Nat} {g : SG} {i : Nat} {o : PO} (h3 : o.ph ≠ 3) (ah : Nat → Value) (h1 : ∀ l, o.level < l → l < 8 → ah l = .pointer (some (plc p g (o.ahead l)))) (h2 : Box w (g.o i) TO (OC.arr ⟨at_ (g.n i), o.height, o.level, plc p g o.pos, lnk g o.seen, ah, nextV (g.o i) o.ph⟩)) : OpIs w p g i o := by
  unfold OpIs
  rw [if_neg h3]
  exact ⟨ah, h1, h2⟩
section
variable {w : World} {p : Nat} {S : PS} {g : SG} {i : Nat}
set_option maxRecDepth 100000 in
set_option maxHeartbeats 1000000 in
theorem descend_at (h : SkAt w p S g) (hi : i < S.ops.length) (h0 : (S.op i).ph = 0) : Calls Tryd.prog 73 #[at_ (g.o i)] w fun e w' => e = .returned (.tuple #[]) ∧ SkAt w' p (S.step i) g ∧ Chg (Foot p g) w w' := by
  have h3 : (S.op i).ph ≠ 3 := by omega
  obtain ⟨ah, hah, hb⟩ := h.opOpen hi h3
  have HP := pass_at h hi h3 hb
  have h8 := ((h.inv.ok i hi).low h3).1
  have HS : Hid (SkAt w p S g ∧ (∀ l, (S.op i).level < l → l < 8 → ah l = .pointer (some (plc p g ((S.op i).ahead l))))) := ⟨h, hah⟩
  clear h hah hb
  have hmf := mk_func
  cases hg : S.goes i with
  | true =>
    rw [hg] at HP
    have HG : Hid (S.goes i = true) := hg
    clear hg
    go_enter Tryd.func73, Tryd.ntmps73
    go_wp2_with fail
    refine HP.mono ?_
    rintro _ w1 ⟨rfl, h1, h2⟩
    go_wp2
    go_returns
    have hs := HS.out.1
    refine ⟨rfl, ?_, hs.isFoot hi h2⟩
    unfold PS.step
    rw [if_pos h0, if_pos HG.out]
    exact hs.setOp hi h2 (hs.inv.went hi (.inl h0) HG.out) rfl (OpIs.mk h3 ah HS.out.2 h1)
  | false =>
    rw [hg] at HP
    have HG : Hid (S.goes i = false) := hg
    clear hg
    go_enter Tryd.func73, Tryd.ntmps73
    go_wp2_with fail
    refine HP.mono ?_
    rintro _ w1 ⟨rfl, h1, h2⟩
    rw [if_neg (by decide)] at h1
    have c2 := h1.cell 2
    have c3 := h1.cell 3
    have c5 := h1.cell (5 + (S.op i).level)
    have f5 := h1.soft (5 + (S.op i).level)
    have f2 := h1.soft 2
    have f13 := h1.soft 13
    have c13 := h1.cell 13
    rw [opArr_at h8] at c5
    simp [OC.arr] at c2 c3 c5 c13
    have HX := h1.set (5 + (S.op i).level) (.pointer (some (plc p g (S.op i).pos)))
    rw [opArr_set h8] at HX
    have HH : Hid (Box (w1.setCell ⟨g.o i, 5 + (S.op i).level, none⟩ (.pointer (some (plc p g (S.op i).pos)))) (g.o i) TO (OC.arr ⟨at_ (g.n i), (S.op i).height, (S.op i).level, plc p g (S.op i).pos, lnk g (S.nx i), updV ah (S.op i).level (.pointer (some (plc p g (S.op i).pos))), nextV (g.o i) (S.op i).ph⟩)) := HX
    have HC : Hid (Chg (Is (g.o i)) w w1) := h2
    clear HX h1 h2 HP
    by_cases hl : (S.op i).level = 0
    · have HL : Hid ((S.op i).level = 0) := hl
      have hz : (((S.op i).level : Int) == 0) = true := by simp [hl]
      clear hl
      have hne1 : ¬ 13 = 5 + (S.op i).level := by omega
      have hne2 : ¬ 5 + (S.op i).level = 13 := by omega
      go_wp2
      go_region
      go_wp2
      go_returns
      have hs := HS.out.1
      have hc : Chg (Is (g.o i)) w (((w1.setCell ⟨g.o i, 5 + (S.op i).level, none⟩ (.pointer (some (plc p g (S.op i).pos)))).setCell ⟨g.o i, 13, none⟩ (nextV (g.o i) 1)).drew) := ((HC.out.put _ _).put _ _).drew
      refine ⟨rfl, ?_, hs.isFoot hi hc⟩
      unfold PS.step
      rw [if_pos h0, if_neg (by rw [HG.out]; decide), if_pos HL.out]
      refine hs.setOp hi hc (hs.inv.lowest hi h0 HL.out HG.out) rfl (OpIs.mk (by simp [PS.low]) (updV ah (S.op i).level (.pointer (some (plc p g (S.op i).pos)))) (fun l h1 h2 => ?_) ((Box.set HH.out 13 (nextV (g.o i) 1)).eq (OC.set_next _ _)))
      simp only [PS.low] at h1 ⊢
      rw [updV, if_neg (by omega), upd, if_neg (by omega)]
      exact HS.out.2 l h1 h2
    · have HL : Hid ((S.op i).level ≠ 0) := hl
      go_wp2
      go_region
      go_wp2
      go_returns
      have hs := HS.out.1
      have hlv : ((S.op i).level : Int) - 1 = (((S.op i).level - 1 : Nat) : Int) := by omega
      rw [hlv]
      have hc : Chg (Is (g.o i)) w (((w1.setCell ⟨g.o i, 5 + (S.op i).level, none⟩ (.pointer (some (plc p g (S.op i).pos)))).setCell ⟨g.o i, 2, none⟩ (.int .i64 (((S.op i).level - 1 : Nat) : Int))).drew) := ((HC.out.put _ _).put _ _).drew
      refine ⟨rfl, ?_, hs.isFoot hi hc⟩
      unfold PS.step
      rw [if_pos h0, if_neg (by rw [HG.out]; decide), if_neg HL.out]
      refine hs.setOp hi hc (hs.inv.down hi h0) rfl (OpIs.mk h3 (updV ah (S.op i).level (.pointer (some (plc p g (S.op i).pos)))) (fun l h1 h2 => ?_) ((HH.out.set 2 _).eq (OC.set_lv _ _)))
      simp only [PS.down] at h1 ⊢
      unfold updV upd
      by_cases e : l = (S.op i).level
      · rw [if_pos e, if_pos e]
      · rw [if_neg e, if_neg e]
        exact HS.out.2 l (by omega) h2
set_option maxRecDepth 100000 in
set_option maxHeartbeats 1000000 in
theorem look_at (h : SkAt w p S g) (hi : i < S.ops.length) (h0 : (S.op i).ph = 2) : Calls Tryd.prog 91 #[at_ (g.o i)] w fun e w' => e = .returned (.tuple #[]) ∧ SkAt w' p (S.step i) g ∧ Chg (Foot p g) w w' := by
  have h3 : (S.op i).ph ≠ 3 := by omega
  obtain ⟨ah, hah, hb⟩ := h.opOpen hi h3
  have HP := pass_at h hi h3 hb
  have HS : Hid (SkAt w p S g ∧ (∀ l, (S.op i).level < l → l < 8 → ah l = .pointer (some (plc p g ((S.op i).ahead l))))) := ⟨h, hah⟩
  clear h hah hb
  have hmf := mk_func
  cases hg : S.goes i with
  | true =>
    rw [hg] at HP
    have HG : Hid (S.goes i = true) := hg
    clear hg
    go_enter Tryd.func91, Tryd.ntmps91
    go_wp2_with fail
    refine HP.mono ?_
    rintro _ w1 ⟨rfl, h1, h2⟩
    go_wp2
    go_returns
    have hs := HS.out.1
    refine ⟨rfl, ?_, hs.isFoot hi h2⟩
    unfold PS.step
    rw [if_neg (by omega), if_neg (by omega), if_pos h0, if_pos HG.out]
    exact hs.setOp hi h2 (hs.inv.went hi (.inr h0) HG.out) rfl (OpIs.mk h3 ah HS.out.2 h1)
  | false =>
    rw [hg] at HP
    have HG : Hid (S.goes i = false) := hg
    clear hg
    go_enter Tryd.func91, Tryd.ntmps91
    go_wp2_with fail
    refine HP.mono ?_
    rintro _ w1 ⟨rfl, h1, h2⟩
    rw [if_neg (by decide)] at h1
    have f13 := h1.soft 13
    have c13 := h1.cell 13
    simp [OC.arr] at c13
    have HH : Hid _ := h1
    have HC : Hid (Chg (Is (g.o i)) w w1) := h2
    clear h1 h2 HP
    go_wp2
    go_returns
    have hs := HS.out.1
    have hc : Chg (Is (g.o i)) w (w1.setCell ⟨g.o i, 13, none⟩ (nextV (g.o i) 1)) := HC.out.put _ _
    refine ⟨rfl, ?_, hs.isFoot hi hc⟩
    unfold PS.step
    rw [if_neg (by omega), if_neg (by omega), if_pos h0, if_neg (by rw [HG.out]; decide)]
    exact hs.setOp hi hc (hs.inv.saw hi h0 HG.out) rfl (OpIs.mk (by simp [PS.saw]) ah HS.out.2 ((Box.set HH.out 13 (nextV (g.o i) 1)).eq (OC.set_next _ _)))
end
end Go.Proofs.YtnggajconglfcaaDoor
