/- The contract of edit's checkFile. -/
import Derived.Test.YtcdfgcjecmpjhaaE13Chk
namespace Go.Proofs.Ytcdfgcjecmpjhaa
open Go.RowKit
set_option linter.unusedVariables false
set_option linter.unusedSimpArgs false
theorem Box.nine {w : World} {p : Nat} {f : PF} (h : Box w p TF (fA f)) : F9 w p 0 f := ⟨h.cell 0, h.cell 1, h.cell 2, h.cell 3, h.cell 4, h.cell 5, h.cell 6, h.cell 7, h.cell 8⟩
def kk (f : PF) : Array Value := #[.string f.small.user, .int .u64 (f.small.seq : Int), .int .i64 f.small.kind, .string f.large.user, .int .u64 (f.large.seq : Int), .int .i64 f.large.kind]
def keyAt (f : PF) (k : Nat) : IK := if k = 0 then f.small else f.large
set_option maxRecDepth 100000 in
theorem idx_keys (g c k : Nat) (hk : k < 2) (W : World) : (Instr.indexAt 85 (.slice (some ⟨g, 0, none⟩) 2 c) (.int .i64 (k : Int))).run Try.prog W = .ok (.pointer (some ⟨g, k * 3, none⟩)) W := by
  have h1 : (0 : Int) ≤ (k : Int) ∧ (k : Int) < ((2 : Nat) : Int) := by omega
  have hsz : (sizeOf (Try.prog.elem 85)).run Try.prog W = .ok 3 W := by kernel_rfl
  rw [run_indexAt_slice (P := Try.prog) (h := (by kernel_rfl : Try.prog.underlying 85 = some (.slice (Try.prog.elem 85)))), if_pos h1, hsz]
  simp [Result.andThen, Addr.add_lit]
set_option maxRecDepth 100000 in
set_option maxHeartbeats 1000000 in
theorem checkFile_any (f : PF) (w : World) (hw : WfF f) :
    Calls Try.prog 41 #[.agg #[.int .i64 f.level, .int .u64 (f.num : Int), .int .i64 f.size, .string f.small.user, .int .u64 (f.small.seq : Int), .int .i64 f.small.kind, .string f.large.user, .int .u64 (f.large.seq : Int), .int .i64 f.large.kind]] w fun e w' => e = .returned (.int .i64 ((f.err : Nat) : Int)) ∧ Below w.heap.size w w' := by
  have HW : Hid (Below w.heap.size w (w.alloc (.cells (fA f) TF)) ∧ Box (w.alloc (.cells (fA f) TF)) w.heap.size TF (fA f)) := ⟨(Below.refl _ _).alloc (Nat.le_refl _) _, Box.new _ _ _⟩
  have HF : Hid (WfF f) := hw
  have HG : Hid (∀ W, Calls Try.prog 40 #[.agg #[.int .i64 f.level, .int .u64 (f.num : Int)]] W fun e w' => e = .returned (.int .i64 ((gErr f.level f.num : Nat) : Int)) ∧ Below W.heap.size W w') := fun W => checkGone_any _ _ _
  have HE : Hid (f.err = if gErr f.level f.num ≠ 0 then gErr f.level f.num else if f.size < 1 ∨ 2147483647 < f.size then 132 else if f.small.err ≠ 0 then f.small.err else if f.large.err ≠ 0 then f.large.err else if f.large.cmp f.small < 0 then 132 else 0) := rfl
  generalize f.err = er at HE
  generalize gErr f.level f.num = ge at HG HE
  clear hw
  by_cases hg : ge = 0
  · subst hg
    have HE2 : Hid (er = if f.size < 1 ∨ 2147483647 < f.size then 132 else if f.small.err ≠ 0 then f.small.err else if f.large.err ≠ 0 then f.large.err else if f.large.cmp f.small < 0 then 132 else 0) := HE.out
    clear HE
    by_cases h1 : f.size < 1
    · go_enter Try.func41, Try.ntmps41
      go_wp2_with fail
      refine (HG.out _).mono ?_
      rintro _ w1 ⟨rfl, hb1⟩
      have H1 : Hid (Below w.heap.size w w1 ∧ Box w1 w.heap.size TF (fA f)) := ⟨HW.out.1.trans (hb1.mono HW.out.1.size), HW.out.2.kept (hb1.block _ HW.out.2.lt)⟩
      obtain ⟨c0, c1, c2, c3, c4, c5, c6, c7, c8⟩ := H1.out.2.nine
      clear hb1
      go_wp2
      go_ret
      rw [HE2.out, if_pos (.inl h1)]
      exact ⟨ret1 rfl, H1.out.1⟩
    · by_cases h2 : 2147483647 < f.size
      · go_enter Try.func41, Try.ntmps41
        go_wp2_with fail
        refine (HG.out _).mono ?_
        rintro _ w1 ⟨rfl, hb1⟩
        have H1 : Hid (Below w.heap.size w w1 ∧ Box w1 w.heap.size TF (fA f)) := ⟨HW.out.1.trans (hb1.mono HW.out.1.size), HW.out.2.kept (hb1.block _ HW.out.2.lt)⟩
        obtain ⟨c0, c1, c2, c3, c4, c5, c6, c7, c8⟩ := H1.out.2.nine
        clear hb1
        go_wp2
        go_ret
        rw [HE2.out, if_pos (.inr h2)]
        exact ⟨ret1 rfl, H1.out.1⟩
      · have HE3 : Hid (er = if f.small.err ≠ 0 then f.small.err else if f.large.err ≠ 0 then f.large.err else if f.large.cmp f.small < 0 then 132 else 0) := by have := HE2.out; rw [if_neg (by omega)] at this; exact this
        clear HE2
        go_enter Try.func41, Try.ntmps41
        go_wp2_with fail
        refine (HG.out _).mono ?_
        rintro _ w1 ⟨rfl, hb1⟩
        have H1 : Hid (Below w.heap.size w w1 ∧ Box w1 w.heap.size TF (fA f)) := ⟨HW.out.1.trans (hb1.mono HW.out.1.size), HW.out.2.kept (hb1.block _ HW.out.2.lt)⟩
        obtain ⟨c0, c1, c2, c3, c4, c5, c6, c7, c8⟩ := H1.out.2.nine
        clear hb1
        have HB : Hid (Below w.heap.size w (w1.alloc (.cells (kk f) 48)) ∧ Box (w1.alloc (.cells (kk f) 48)) w.heap.size TF (fA f) ∧ Box (w1.alloc (.cells (kk f) 48)) w1.heap.size 48 (kk f)) := ⟨H1.out.1.alloc H1.out.1.size _, H1.out.2.alloc _, Box.new _ _ _⟩
        go_wp2_with fail
        clear c0 c1 c2 c3 c4 c5 c6 c7 c8
        go_loopw [30] (fun x wr => ∃ k : Nat, k ≤ 2 ∧ x = .int .i64 (k : Int) ∧ Hid (Below w.heap.size w wr ∧ Box wr w.heap.size TF (fA f) ∧ Box wr w1.heap.size 48 (kk f) ∧ (0 < k → f.small.err = 0) ∧ (1 < k → f.large.err = 0))) (fun x _ => 2 - (intOf x).toNat)
        case atStart => exact ⟨0, by omega, rfl, HB.out.1, HB.out.2.1, HB.out.2.2, fun h => by omega, fun h => by omega⟩
        case round =>
          obtain ⟨k, hk, rfl, HR⟩ := hrel
          by_cases hk2 : k < 2
          · have hidx := fun W => idx_keys w1.heap.size 2 k hk2 W
            have HKE : Hid (k = 0 ∧ keyAt f k = f.small ∨ k = 1 ∧ keyAt f k = f.large) := by
              have : k = 0 ∨ k = 1 := by omega
              rcases this with rfl | rfl
              · exact .inl ⟨rfl, rfl⟩
              · exact .inr ⟨rfl, rfl⟩
            have hcs : wr.cell? ⟨w1.heap.size, k * 3, none⟩ = some (.string (keyAt f k).user) ∧ wr.cell? ⟨w1.heap.size, k * 3 + 1, none⟩ = some (.int .u64 ((keyAt f k).seq : Int)) ∧ wr.cell? ⟨w1.heap.size, k * 3 + 2, none⟩ = some (.int .i64 (keyAt f k).kind) := by
              rw [HR.out.2.2.1.cell, HR.out.2.2.1.cell, HR.out.2.2.1.cell]
              rcases HKE.out with ⟨rfl, e⟩ | ⟨rfl, e⟩ <;> rw [e] <;> exact ⟨rfl, rfl, rfl⟩
            have hsz : (keyAt f k).user.size ≤ 9223372036854775807 := by
              have := HF.out
              unfold WfF at this
              rcases HKE.out with ⟨_, e⟩ | ⟨_, e⟩ <;> rw [e] <;> omega
            obtain ⟨c0, c1, c2⟩ := hcs
            have HC : Hid (∀ W, Calls Try.prog 52 #[.agg #[.string (keyAt f k).user, .int .u64 ((keyAt f k).seq : Int), .int .i64 (keyAt f k).kind]] W fun e w' => e = .returned (.int .i64 (((keyAt f k).err : Nat) : Int)) ∧ Below W.heap.size W w') := fun W => check_any _ _ _ W hsz
            generalize keyAt f k = key at *
            clear hsz
            have HN : Hid (Below w.heap.size w (wr.alloc (.cells #[.string key.user, .int .u64 (key.seq : Int), .int .i64 key.kind] 48)) ∧ Box (wr.alloc (.cells #[.string key.user, .int .u64 (key.seq : Int), .int .i64 key.kind] 48)) w.heap.size TF (fA f) ∧ Box (wr.alloc (.cells #[.string key.user, .int .u64 (key.seq : Int), .int .i64 key.kind] 48)) w1.heap.size 48 (kk f)) := ⟨HR.out.1.alloc HR.out.1.size _, HR.out.2.1.alloc _, HR.out.2.2.1.alloc _⟩
            go_wp2_with fail
            refine (HC.out _).mono ?_
            rintro _ w2 ⟨rfl, hb2⟩
            have H2 : Hid (Below w.heap.size w w2 ∧ Box w2 w.heap.size TF (fA f) ∧ Box w2 w1.heap.size 48 (kk f)) := ⟨HN.out.1.trans (hb2.mono HN.out.1.size), HN.out.2.1.kept (hb2.block _ HN.out.2.1.lt), HN.out.2.2.kept (hb2.block _ HN.out.2.2.lt)⟩
            clear hb2 HN
            have HKE2 : Hid (k = 0 ∧ key.err = f.small.err ∨ k = 1 ∧ key.err = f.large.err) := by
              rcases HKE.out with ⟨h, e⟩ | ⟨h, e⟩
              · exact .inl ⟨h, by rw [e]⟩
              · exact .inr ⟨h, by rw [e]⟩
            generalize key.err = ke at HKE2
            by_cases hke : ke = 0
            · subst hke
              go_wp2
              go_roundw
              case rel =>
                refine ⟨k + 1, by omega, by go_num, H2.out.1, H2.out.2.1, H2.out.2.2, fun _ => ?_, fun _ => ?_⟩
                · rcases HKE2.out with ⟨rfl, e⟩ | ⟨rfl, e⟩
                  · exact e.symm
                  · exact HR.out.2.2.2.1 (by omega)
                · rcases HKE2.out with ⟨rfl, e⟩ | ⟨rfl, e⟩
                  · omega
                  · exact e.symm
              case measure => simp only [intOf]; omega
            · have hne : ((ke : Int) != 0) = true := by simp; omega
              go_wp2
              go_ret
              refine ⟨ret1 ?_, H2.out.1⟩
              rw [HE3.out]
              rcases HKE2.out with ⟨rfl, e⟩ | ⟨rfl, e⟩
              · rw [← e, if_pos hke]
                rfl
              · rw [if_neg (by rw [HR.out.2.2.2.1 (by omega)]; simp), ← e, if_pos hke]
                rfl
          · obtain ⟨c0, c1, c2, c3, c4, c5, c6, c7, c8⟩ := HR.out.2.1.nine
            have HC : Hid (∀ W, Calls Try.prog 53 #[.agg #[.string f.large.user, .int .u64 (f.large.seq : Int), .int .i64 f.large.kind], .agg #[.string f.small.user, .int .u64 (f.small.seq : Int), .int .i64 f.small.kind]] W fun e w' => e = .returned (.int .i64 (f.large.cmp f.small)) ∧ Below W.heap.size W w') := fun W => compare_any _ _ _ _ _ _ W
            go_wp2_with fail
            refine (HC.out _).mono ?_
            rintro _ w2 ⟨rfl, hb2⟩
            have H2 : Hid (Below w.heap.size w w2) := HR.out.1.trans (hb2.mono HR.out.1.size)
            clear hb2
            have HE4 : Hid (er = if f.large.cmp f.small < 0 then 132 else 0) := by
              have := HE3.out
              rw [if_neg (by rw [HR.out.2.2.2.1 (by omega)]; simp), if_neg (by rw [HR.out.2.2.2.2 (by omega)]; simp)] at this
              exact this
            clear HE3 HC
            generalize f.large.cmp f.small = cv at HE4
            by_cases hcv : cv < 0
            · go_wp2
              go_ret
              rw [HE4.out, if_pos hcv]
              exact ⟨ret1 rfl, H2.out⟩
            · go_wp2
              go_ret
              rw [HE4.out, if_neg (by omega)]
              exact ⟨ret1 rfl, H2.out⟩
  · have hne : ((ge : Int) != 0) = true := by simp; omega
    go_enter Try.func41, Try.ntmps41
    go_wp2_with fail
    refine (HG.out _).mono ?_
    rintro _ w1 ⟨rfl, hb1⟩
    have H1 : Hid (Below w.heap.size w w1) := HW.out.1.trans (hb1.mono HW.out.1.size)
    clear hb1
    go_wp2
    go_ret
    rw [HE.out, if_pos hg]
    exact ⟨ret1 rfl, H1.out⟩
end Go.Proofs.Ytcdfgcjecmpjhaa
