/- The contract of version's mayStand. -/
import Derived.Test.YtmlfbihlbiikeaaGreatDoorQa07
import Derived.Test.YtmlfbihlbiikeaaGreatDoorQa06
import Derived.Deep.DeepCutAuto
namespace Go.Proofs.YtmlfbihlbiikeaaGreatDoor
open Go.RowKit
set_option linter.unusedVariables false
set_option linter.unusedSimpArgs false
theorem LvOk.step {n k : Nat} {l : List PF} (h : LvOk n (l.take k)) (hk : k < l.length) (h1 : l[k].err = 0) (h2 : l[k].level = (n : Int)) (h3 : ∀ (h0 : 0 < k), ahead n (l[k - 1]'(by omega)) l[k]) : LvOk n (l.take (k + 1)) := by
  rw [List.take_succ_eq_append_getElem hk]
  refine ⟨fun f hf => ?_, ?_⟩
  · rcases List.mem_append.1 hf with hf | hf
    · exact h.each f hf
    · obtain rfl := List.mem_singleton.1 hf
      exact ⟨h1, h2⟩
  · rw [List.pairwise_append]
    refine ⟨h.row, List.pairwise_singleton _ _, fun a ha b hb => ?_⟩
    obtain rfl := List.mem_singleton.1 hb
    obtain ⟨i, hi, rfl⟩ := List.getElem_of_mem ha
    rw [List.length_take] at hi
    have hi2 : i < k := by omega
    by_cases e : i = k - 1
    · have h4 := h3 (by omega)
      simp only [List.getElem_take]
      subst e
      exact h4
    · have h4 := h3 (by omega)
      have h5 := List.pairwise_iff_getElem.1 h.row i (k - 1) (by rw [List.length_take]; omega) (by rw [List.length_take]; omega) (by omega)
      have h6 := (h.each ((l.take k)[k - 1]'(by rw [List.length_take]; omega)) (List.getElem_mem _)).1
      exact ahead_trans h6 h5 (by rw [List.getElem_take]; exact h4)
theorem LvOk.at {n k : Nat} {l : List PF} (h : LvOk n l) (hk : k < l.length) : l[k].err = 0 ∧ l[k].level = (n : Int) ∧ ∀ (h0 : 0 < k), ahead n (l[k - 1]'(by omega)) l[k] :=
  ⟨(h.each _ (List.getElem_mem _)).1, (h.each _ (List.getElem_mem _)).2, fun h0 => List.pairwise_iff_getElem.1 h.row (k - 1) k (by omega) hk (by omega)⟩
theorem ord_call (n : Nat) (f g : PF) (W : World) : Calls Tryz.prog (if n = 0 then 166 else 167) #[.agg #[.int .i64 f.level, .int .u64 (f.num : Int), .int .i64 f.size, .string f.small.user, .int .u64 (f.small.seq : Int), .int .i64 f.small.kind, .string f.large.user, .int .u64 (f.large.seq : Int), .int .i64 f.large.kind], .agg #[.int .i64 g.level, .int .u64 (g.num : Int), .int .i64 g.size, .string g.small.user, .int .u64 (g.small.seq : Int), .int .i64 g.small.kind, .string g.large.user, .int .u64 (g.large.seq : Int), .int .i64 g.large.kind]] W fun e w' => e = .returned (.bool (decide (ahead n f g))) ∧ Below W.heap.size W w' := by
  by_cases h : n = 0
  · subst h
    simp only [if_true]
    refine (newer_any f g W).mono ?_
    rintro e w' ⟨rfl, hb⟩
    exact ⟨by simp [ahead], hb⟩
  · simp only [if_neg h]
    refine (below_any f g W).mono ?_
    rintro e w' ⟨rfl, hb⟩
    exact ⟨by simp [ahead, h], hb⟩
theorem ord_enter (n : Nat) (args : Array Value) (W : World) : (callFunc (if n = 0 then 166 else 167) args).run Tryz.prog W = .ok (.enter (if n = 0 then 166 else 167) args) W := by
  by_cases h : n = 0
  · simp only [if_pos h]
    kernel_rfl
  · simp only [if_neg h]
    kernel_rfl
def oneS (W : World) : SE := ⟨none, 0, some ⟨W.heap.size, 0, none⟩, 1⟩
set_option maxRecDepth 100000 in
set_option maxHeartbeats 4000000 in
theorem mayStand_any {l : List PF} (n : Nat) (a : Option Addr) (m c : Nat) (w : World) (h : FlAt w a m c l) (hw : ∀ f ∈ l, WfF f) :
    Calls Tryz.prog 109 #[.int .i64 (n : Int), .slice a m c] w fun e w' => ∃ q : Bool, e = .returned (.bool q) ∧ (q = true ↔ LvOk n l) ∧ Below w.heap.size w w' := by
  have HL : Hid (FlAt w a m c l ∧ (∀ f ∈ l, WfF f) ∧ l.length = m) := ⟨h, hw, h.size⟩
  have hcm := h.row.max
  have hlc := h.row.le
  unfold maxLen at hcm
  clear h hw
  have HO := orderOf_any n w
  have HC : Hid (∀ (W : World) (f : PF) (n0 : Nat), WfF f → n0 = W.heap.size → Calls Tryz.prog 65 #[.agg #[.int .u64 0, .int .u64 0, .int .u64 0, .slice none 0 0, .slice (some ⟨n0, 0, none⟩) 1 1]] (W.alloc (.cells (fA f) TF)) fun e w' => e = .returned (.int .i64 ((f.err : Nat) : Int)) ∧ Below W.heap.size W w') := fun W f n0 hf hn => by
    subst hn
    have := echeck_any (oneE f) (oneS W) (W.alloc (.cells (fA f) TF)) ⟨GsAt.nil _, FlAt.one W f⟩ (fun g hg => by obtain rfl := List.mem_singleton.1 hg; exact hf)
    rw [oneE_err] at this
    refine this.mono ?_
    rintro e w' ⟨rfl, hb⟩
    exact ⟨rfl, ((Below.refl _ _).alloc (Nat.le_refl _) _).trans (hb.mono (by simp))⟩
  go_enter Tryz.func109, Tryz.ntmps109
  go_wp2_with fail
  refine HO.mono ?_
  rintro _ w1 ⟨rfl, rfl⟩
  unfold ordV
  obtain ⟨od, HOD, HK⟩ : ∃ od : PF → PF → Bool, Hid (∀ f g, od f g = decide (ahead n f g)) ∧ Hid (∀ (f g : PF) (W : World), Calls Tryz.prog (if n = 0 then 166 else 167) #[.agg #[.int .i64 f.level, .int .u64 (f.num : Int), .int .i64 f.size, .string f.small.user, .int .u64 (f.small.seq : Int), .int .i64 f.small.kind, .string f.large.user, .int .u64 (f.large.seq : Int), .int .i64 f.large.kind], .agg #[.int .i64 g.level, .int .u64 (g.num : Int), .int .i64 g.size, .string g.small.user, .int .u64 (g.small.seq : Int), .int .i64 g.small.kind, .string g.large.user, .int .u64 (g.large.seq : Int), .int .i64 g.large.kind]] W fun e w' => e = .returned (.bool (od f g)) ∧ Below W.heap.size W w') := ⟨fun f g => decide (ahead n f g), fun _ _ => rfl, fun f g W => ord_call n f g W⟩
  have hcf := ord_enter n
  generalize (if n = 0 then 166 else 167) = fn at HK hcf ⊢
  go_wp2_with fail
  go_loopw [12] (fun s wr => ∃ k : Nat, s = .int .i64 (k : Int) ∧ k ≤ m ∧ Hid (Below w.heap.size w wr ∧ LvOk n (l.take k))) (fun s _ => m - (intOf s).toNat)
  case atStart => exact ⟨0, rfl, Nat.zero_le _, Below.refl _ _, ⟨by simp, by simp⟩⟩
  case round =>
    obtain ⟨k, rfl, hkm, HI⟩ := hrel
    by_cases hk : k < m
    · have hkl : k < l.length := by rw [HL.out.2.2]; exact hk
      obtain ⟨b, o, hidx, hblt, hcs⟩ := HL.out.1.at hkl
      obtain ⟨c0, c1, c2, c3, c4, c5, c6, c7, c8⟩ := hcs wr HI.out.1
      have HCS : Hid (∀ W : World, Below w.heap.size w W → F9 W b o l[k]) := hcs
      have HF : Hid (WfF l[k]) := HL.out.2.1 _ (List.getElem_mem hkl)
      have HST : Hid (l[k].err = 0 → l[k].level = (n : Int) → (∀ (h0 : 0 < k), ahead n (l[k - 1]'(by omega)) l[k]) → LvOk n (l.take (k + 1))) := fun h1 h2 h3 => HI.out.2.step hkl h1 h2 h3
      have HNO : Hid (LvOk n l → l[k].err = 0 ∧ l[k].level = (n : Int) ∧ ∀ (h0 : 0 < k), ahead n (l[k - 1]'(by omega)) l[k]) := fun h => h.at hkl
      clear hcs
      by_cases hlv : l[k].level = (n : Int)
      · have HPR : Hid (∀ (h0 : 0 < k), ∃ b' o' : Nat, (∀ W : World, (Instr.indexAt 41 (.slice a m c) (.int .i64 ((k : Int) - 1))).run Tryz.prog W = .ok (.pointer (some ⟨b', o', none⟩)) W) ∧ ∀ W : World, Below w.heap.size w W → F9 W b' o' (l[k - 1]'(by omega))) := fun h0 => by
          obtain ⟨b', o', h1, _, h2⟩ := HL.out.1.at (k := k - 1) (by omega)
          refine ⟨b', o', fun W => ?_, h2⟩
          have := h1 W
          rw [show ((k - 1 : Nat) : Int) = (k : Int) - 1 by omega] at this
          exact this
        have HPP : Hid (∀ (h0 : 0 < k), ∃ g : PF, (∃ b' o' : Nat, (∀ W : World, (Instr.indexAt 41 (.slice a m c) (.int .i64 ((k : Int) - 1))).run Tryz.prog W = .ok (.pointer (some ⟨b', o', none⟩)) W) ∧ ∀ W : World, Below w.heap.size w W → F9 W b' o' g) ∧ ((LvOk n l → ahead n g l[k]) ∧ (l[k].err = 0 → ahead n g l[k] → LvOk n (l.take (k + 1))))) := fun h0 => ⟨_, HPR.out h0, fun h => (HNO.out h).2.2 h0, fun h1 h3 => HST.out h1 hlv (fun _ => h3)⟩
        have HP0 : Hid (k = 0 → l[k].err = 0 → LvOk n (l.take (k + 1))) := fun h0 h1 => HST.out h1 hlv (fun h => by omega)
        have HNE : Hid (LvOk n l → l[k].err = 0) := fun h => (HNO.out h).1
        clear HPR HST HNO
        generalize l[k] = f at c0 c1 c2 c3 c4 c5 c6 c7 c8 HCS HF HPP HP0 HNE hlv
        have hlb : (f.level != (n : Int)) = false := by simp [hlv]
        clear hlv
        have HW1 : Hid (Below w.heap.size w (wr.alloc (.cells (fA f) TF)) ∧ Box (wr.alloc (.cells (fA f) TF)) wr.heap.size TF (fA f)) := ⟨HI.out.1.alloc HI.out.1.size _, Box.new _ _ _⟩
        go_wp2_with fail
        refine (HC.out (wr.alloc (.cells #[.int .i64 f.level, .int .u64 (f.num : Int), .int .i64 f.size, .string f.small.user, .int .u64 (f.small.seq : Int), .int .i64 f.small.kind, .string f.large.user, .int .u64 (f.large.seq : Int), .int .i64 f.large.kind] TF)) f (wr.heap.size + 1) HF.out (by simp)).mono ?_
        rintro _ w2 ⟨rfl, hb2⟩
        have H2 : Hid (Below w.heap.size w w2 ∧ Box w2 wr.heap.size TF (fA f)) := ⟨HW1.out.1.trans (hb2.mono HW1.out.1.size), HW1.out.2.kept (hb2.block _ HW1.out.2.lt)⟩
        clear hb2 HW1 c0 c1 c2 c3 c4 c5 c6 c7 c8
        by_cases he : f.err = 0
        · rw [he]
          by_cases hk0 : k = 0
          · subst hk0
            go_wp2_with fail
            go_quiet (fail)
            go_wp2
            go_roundw
            case rel => exact ⟨1, by simp, hk, H2.out.1.trans ⟨rfl, rfl, rfl, Nat.le_refl _, fun _ _ => rfl⟩, HP0.out (by first | rfl | trivial) he⟩
            case measure => simp only [intOf]; omega
          · obtain ⟨g, ⟨b', o', hidx', hg9⟩, hyes⟩ := HPP.out (by omega)
            have HY : Hid ((LvOk n l → ahead n g f) ∧ (f.err = 0 → ahead n g f → LvOk n (l.take (k + 1)))) := hyes
            have hk0I : (0 : Int) < (k : Int) := by omega
            have hk0N : 0 < k := by omega
            have hwk : IntKind.i64.wrap ((k : Int) - 1) = (k : Int) - 1 := by rw [IntKind.wrap_i64]; omega
            have n9 := fun p : Bel w2 => (H2.out.2.kept (p.h.block _ H2.out.2.lt)).nine
            have g9 := fun p : Bel w2 => hg9 p.now (H2.out.1.trans (p.h.mono H2.out.1.size))
            have x0 := fun p => (n9 p).c0
            have x1 := fun p => (n9 p).c1
            have x2 := fun p => (n9 p).c2
            have x3 := fun p => (n9 p).c3
            have x4 := fun p => (n9 p).c4
            have x5 := fun p => (n9 p).c5
            have x6 := fun p => (n9 p).c6
            have x7 := fun p => (n9 p).c7
            have x8 := fun p => (n9 p).c8
            have y0 := fun p => (g9 p).c0
            have y1 := fun p => (g9 p).c1
            have y2 := fun p => (g9 p).c2
            have y3 := fun p => (g9 p).c3
            have y4 := fun p => (g9 p).c4
            have y5 := fun p => (g9 p).c5
            have y6 := fun p => (g9 p).c6
            have y7 := fun p => (g9 p).c7
            have y8 := fun p => (g9 p).c8
            simp only [Nat.zero_add] at x1 x2 x3 x4 x5 x6 x7 x8
            clear n9 g9 hg9 hyes
            go_wp2_with fail
            have hne : Nonempty (Bel w2) := ⟨⟨w2, Below.refl _ _⟩⟩
            refine wp_region_bel (by kernel_rfl) (by kernel_rfl) ?_
            repeat (quiet_step (first | (refine bel_call (HK.out _ _ _))))
            refine wpQuiet_nil ?_
            rintro _ ⟨p, rfl⟩
            have H3 : Hid (Below w.heap.size w p.now) := H2.out.1.trans (p.h.mono H2.out.1.size)
            clear x0 x1 x2 x3 x4 x5 x6 x7 x8 y0 y1 y2 y3 y4 y5 y6 y7 y8
            generalize p.now = w3 at H3 ⊢
            cases hq : od g f
            · have HA : Hid (¬ ahead n g f) := by
                have := HOD.out g f
                rw [hq] at this
                exact of_decide_eq_false this.symm
              go_wp2
              go_ret
              exact ⟨false, ret1 rfl, ⟨fun h => (by cases h), fun h => absurd (HY.out.1 h) HA.out⟩, H3.out⟩
            · have HA : Hid (ahead n g f) := by
                have := HOD.out g f
                rw [hq] at this
                exact (of_decide_eq_true this.symm : ahead n g f)
              go_wp2
              go_roundw
              case rel => exact ⟨k + 1, by go_num, hk, H3.out, HY.out.2 he HA.out⟩
              case measure => simp only [intOf]; omega
        · have heb : (((f.err : Nat) : Int) != 0) = true := by simp; omega
          go_wp2_with fail
          go_ret
          exact ⟨false, ret1 rfl, ⟨fun h => (by cases h), fun h => absurd (HNE.out h) he⟩, H2.out.1⟩
      · have hlb : (l[k].level != (n : Int)) = true := bne_iff_ne.2 hlv
        have HB : Hid (Below w.heap.size w (wr.alloc (.cells (fA l[k]) TF))) := HI.out.1.alloc HI.out.1.size _
        go_wp2_with fail
        go_ret
        exact ⟨false, ret1 rfl, ⟨fun h => (by cases h), fun h => absurd (HNO.out h).2.1 hlv⟩, HB.out⟩
    · go_wp2_with fail
      go_ret
      refine ⟨true, ret1 rfl, ⟨fun _ => ?_, fun _ => rfl⟩, HI.out.1⟩
      have := HI.out.2
      rw [List.take_of_length_le (by rw [HL.out.2.2]; omega)] at this
      exact this
end Go.Proofs.YtmlfbihlbiikeaaGreatDoor
