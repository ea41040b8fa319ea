/- The contracts of the document's own place, File and Check. -/
import Derived.Test.YtcdfgcjecmpjhaaE13Check
import Derived.Test.YtcdfgcjecmpjhaaRChk
import Derived.Test.YtcdfgcjecmpjhaaRKcmp
import Derived.BigQuiet
import Derived.Deep.RegionHeld3
namespace Go.Proofs.Ytcdfgcjecmpjhaa
open Go.RowKit
set_option linter.unusedVariables false
set_option linter.unusedSimpArgs false
set_option maxRecDepth 100000 in
set_option maxHeartbeats 400000 in
theorem rplace_any (l : Int) (n : Nat) (w : World) : Calls Try.prog 46 #[.int .i64 l, .int .u64 (n : Int)] w fun e w' => e = .returned (.int .i64 ((gErr l n : Nat) : Int)) ∧ w' = w := by
  by_cases h1 : l < 0
  · have HE : Hid (gErr l n = 130) := by unfold gErr Hid; rw [if_pos (.inl h1)]
    go_enter Try.func46, Try.ntmps46
    go_wp2
    go_ret
    rw [HE.out]
    exact ⟨ret1 rfl, rfl⟩
  · by_cases h2 : 4 ≤ l
    · have HE : Hid (gErr l n = 130) := by unfold gErr Hid; rw [if_pos (.inr h2)]
      go_enter Try.func46, Try.ntmps46
      go_wp2
      go_ret
      rw [HE.out]
      exact ⟨ret1 rfl, rfl⟩
    · by_cases h3 : n < 1
      · have HE : Hid (gErr l n = 132) := by unfold gErr Hid; rw [if_neg (by omega), if_pos (.inl h3)]
        go_enter Try.func46, Try.ntmps46
        go_wp2
        go_ret
        rw [HE.out]
        exact ⟨ret1 rfl, rfl⟩
      · by_cases h4 : 1099511627776 < n
        · have HE : Hid (gErr l n = 132) := by unfold gErr Hid; rw [if_neg (by omega), if_pos (.inr h4)]
          go_enter Try.func46, Try.ntmps46
          go_wp2
          go_ret
          rw [HE.out]
          exact ⟨ret1 rfl, rfl⟩
        · have HE : Hid (gErr l n = 0) := by unfold gErr Hid; rw [if_neg (by omega), if_neg (by omega)]
          go_enter Try.func46, Try.ntmps46
          go_wp2
          go_ret
          rw [HE.out]
          exact ⟨ret1 rfl, rfl⟩
set_option maxRecDepth 100000 in
set_option maxHeartbeats 1000000 in
theorem rfile_any (f : PF) (w : World) (hw : WfF f) :
    Calls Try.prog 35 #[.agg #[.int .i64 f.level, .int .u64 (f.num : Int), .int .i64 f.size, .string f.small.user, .int .u64 (f.small.seq : Int), .int .i64 f.small.kind, .string f.large.user, .int .u64 (f.large.seq : Int), .int .i64 f.large.kind]] w fun e w' => e = .returned (.int .i64 ((f.err : Nat) : Int)) ∧ Below w.heap.size w w' := by
  have HW : Hid (Below w.heap.size w (w.alloc (.cells (fA f) TF)) ∧ Box (w.alloc (.cells (fA f) TF)) w.heap.size TF (fA f)) := ⟨(Below.refl _ _).alloc (Nat.le_refl _) _, Box.new _ _ _⟩
  have HG := fun W => rplace_any f.level f.num W
  have HC1 : Hid (∀ W, Calls Try.prog 47 #[.agg #[.string f.small.user, .int .u64 (f.small.seq : Int), .int .i64 f.small.kind]] W fun e w' => e = .returned (.int .i64 ((f.small.err : Nat) : Int)) ∧ Below W.heap.size W w') := fun W => rcheck_any _ _ _ W (by have := hw.1; omega)
  have HC2 : Hid (∀ W, Calls Try.prog 47 #[.agg #[.string f.large.user, .int .u64 (f.large.seq : Int), .int .i64 f.large.kind]] W fun e w' => e = .returned (.int .i64 ((f.large.err : Nat) : Int)) ∧ Below W.heap.size W w') := fun W => rcheck_any _ _ _ W (by have := hw.2; omega)
  have HC3 : Hid (∀ W, Calls Try.prog 48 #[.agg #[.string f.large.user, .int .u64 (f.large.seq : Int), .int .i64 f.large.kind], .agg #[.string f.small.user, .int .u64 (f.small.seq : Int), .int .i64 f.small.kind]] W fun e w' => e = .returned (.int .i64 (f.large.cmp f.small)) ∧ Below W.heap.size W w') := fun W => rcompare_any _ _ _ _ _ _ W
  have HE : Hid (f.err = if gErr f.level f.num ≠ 0 then gErr f.level f.num else if f.size < 1 ∨ 2147483647 < f.size then 132 else if f.small.err ≠ 0 then f.small.err else if f.large.err ≠ 0 then f.large.err else if f.large.cmp f.small < 0 then 132 else 0) := rfl
  generalize f.err = er at HE
  generalize gErr f.level f.num = ge at HG HE
  generalize f.small.err = e1 at HC1 HE
  generalize f.large.err = e2 at HC2 HE
  generalize f.large.cmp f.small = cv at HC3 HE
  clear hw
  go_enter Try.func35, Try.ntmps35
  go_wp2_with fail
  refine (HG _).mono ?_
  rintro _ w1 ⟨rfl, hw1⟩
  have H1 : Hid (Below w.heap.size w w1 ∧ Box w1 w.heap.size TF (fA f)) := by rw [hw1]; exact HW.out
  obtain ⟨c0, c1, c2, c3, c4, c5, c6, c7, c8⟩ := H1.out.2.nine
  clear hw1 HW HG
  by_cases hg : ge = 0
  · subst hg
    by_cases h1 : f.size < 1
    · go_wp2
      go_ret
      rw [HE.out, if_neg (by simp), if_pos (.inl h1)]
      exact ⟨ret1 rfl, H1.out.1⟩
    by_cases h2 : 2147483647 < f.size
    · go_wp2
      go_ret
      rw [HE.out, if_neg (by simp), if_pos (.inr h2)]
      exact ⟨ret1 rfl, H1.out.1⟩
    have HE2 : Hid (er = if e1 ≠ 0 then e1 else if e2 ≠ 0 then e2 else if cv < 0 then 132 else 0) := by
      have := HE.out
      rw [if_neg (by simp), if_neg (by omega)] at this
      exact this
    go_wp2_with fail
    refine (HC1.out _).mono ?_
    rintro _ w2 ⟨rfl, hb2⟩
    have H2 : Hid (Below w.heap.size w w2 ∧ Box w2 w.heap.size TF (fA f)) := ⟨H1.out.1.trans (hb2.mono H1.out.1.size), H1.out.2.kept (hb2.block _ H1.out.2.lt)⟩
    clear c0 c1 c2 c3 c4 c5 c6 c7 c8
    obtain ⟨c0, c1, c2, c3, c4, c5, c6, c7, c8⟩ := H2.out.2.nine
    clear hb2 HC1 HE H1
    by_cases hk1 : e1 = 0
    · subst hk1
      go_wp2_with fail
      refine (HC2.out _).mono ?_
      rintro _ w3 ⟨rfl, hb3⟩
      have H3 : Hid (Below w.heap.size w w3 ∧ Box w3 w.heap.size TF (fA f)) := ⟨H2.out.1.trans (hb3.mono H2.out.1.size), H2.out.2.kept (hb3.block _ H2.out.2.lt)⟩
      clear c0 c1 c2 c3 c4 c5 c6 c7 c8
      obtain ⟨c0, c1, c2, c3, c4, c5, c6, c7, c8⟩ := H3.out.2.nine
      clear hb3 HC2 H2
      by_cases hk2 : e2 = 0
      · subst hk2
        go_wp2_with fail
        refine (HC3.out _).mono ?_
        rintro _ w4 ⟨rfl, hb4⟩
        have H4 : Hid (Below w.heap.size w w4) := H3.out.1.trans (hb4.mono H3.out.1.size)
        clear hb4 c0 c1 c2 c3 c4 c5 c6 c7 c8 HC3
        by_cases hcv : cv < 0
        · go_wp2
          go_ret
          rw [HE2.out, if_neg (by simp), if_neg (by simp), if_pos (by omega)]
          exact ⟨ret1 rfl, H4.out⟩
        · go_wp2
          go_ret
          rw [HE2.out, if_neg (by simp), if_neg (by simp), if_neg (by omega)]
          exact ⟨ret1 rfl, H4.out⟩
      · have hne : ((e2 : Int) != 0) = true := by simp; omega
        go_wp2
        go_ret
        rw [HE2.out, if_neg (by simp), if_pos hk2]
        exact ⟨ret1 rfl, H3.out.1⟩
    · have hne : ((e1 : Int) != 0) = true := by simp; omega
      go_wp2
      go_ret
      rw [HE2.out, if_pos hk1]
      exact ⟨ret1 rfl, H2.out.1⟩
  · have hne : ((ge : Int) != 0) = true := by simp; omega
    go_wp2
    go_ret
    rw [HE.out, if_pos hg]
    exact ⟨ret1 rfl, H1.out.1⟩
end Go.Proofs.Ytcdfgcjecmpjhaa
