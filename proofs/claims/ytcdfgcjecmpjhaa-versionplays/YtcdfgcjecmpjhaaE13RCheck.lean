/- The contract of the document's own Check. -/
import Derived.Test.YtcdfgcjecmpjhaaE13RChk
namespace Go.Proofs.Ytcdfgcjecmpjhaa
open Go.RowKit
set_option linter.unusedVariables false
set_option linter.unusedSimpArgs false
set_option maxRecDepth 100000 in
set_option maxHeartbeats 2000000 in
theorem recheck_any (x : PE) (s : SE) (w : World) (h : EdAt w x s) (hw : WfE x) :
    Calls Try.prog 30 #[.agg #[.int .u64 (x.log : Int), .int .u64 (x.next : Int), .int .u64 (x.last : Int), .slice s.a x.dels.length s.c, .slice s.a' x.adds.length s.c']] w fun e w' => e = .returned (.int .i64 ((x.err : Nat) : Int)) ∧ Below w.heap.size w w' := by
  have HW : Hid (Below w.heap.size w (w.alloc (.cells (eA x s) TE)) ∧ Box (w.alloc (.cells (eA x s) TE)) w.heap.size TE (eA x s)) := ⟨(Below.refl _ _).alloc (Nat.le_refl _) _, Box.new _ _ _⟩
  have HS : Hid (EdAt w x s ∧ WfE x) := ⟨h, hw⟩
  have hm := h.gs.row.max
  have hl := h.gs.row.le
  have hm' := h.fs.row.max
  have hl' := h.fs.row.le
  unfold maxLen at hm hm'
  clear h hw
  by_cases h1 : 20000 < x.dels.length
  · have HE : Hid (x.err = 131) := PE.err_many (.inl h1)
    go_enter Try.func30, Try.ntmps30
    go_wp2
    go_ret
    rw [HE.out]
    exact ⟨ret1 rfl, HW.out.1⟩
  by_cases h2 : 100 < x.adds.length
  · have HE : Hid (x.err = 131) := PE.err_many (.inr h2)
    go_enter Try.func30, Try.ntmps30
    go_wp2
    go_ret
    rw [HE.out]
    exact ⟨ret1 rfl, HW.out.1⟩
  by_cases h3 : 1099511627776 < x.log
  · have HE : Hid (x.err = 132) := PE.err_file (by omega) (.inl h3)
    go_enter Try.func30, Try.ntmps30
    go_wp2
    go_ret
    rw [HE.out]
    exact ⟨ret1 rfl, HW.out.1⟩
  by_cases h4 : 1099511627776 < x.next
  · have HE : Hid (x.err = 132) := PE.err_file (by omega) (.inr h4)
    go_enter Try.func30, Try.ntmps30
    go_wp2
    go_ret
    rw [HE.out]
    exact ⟨ret1 rfl, HW.out.1⟩
  by_cases h5 : 72057594037927935 < x.last
  · have HE : Hid (x.err = 22) := PE.err_seq (by omega) (by omega) h5
    go_enter Try.func30, Try.ntmps30
    go_wp2
    go_ret
    rw [HE.out]
    exact ⟨ret1 rfl, HW.out.1⟩
  have HE : Hid (x.err = if errL PG.err x.dels ≠ 0 then errL PG.err x.dels else errL PF.err x.adds) := PE.err_rest (by omega) (by omega) h5
  generalize x.err = er at HE
  go_enter Try.func30, Try.ntmps30
  go_wp2_with fail
  go_loopw [3] (fun i wr => ∃ k : Nat, k ≤ x.dels.length ∧ i = .int .i64 (k : Int) ∧ Hid (Below w.heap.size w wr ∧ Box wr w.heap.size TE (eA x s) ∧ errL PG.err x.dels = errL PG.err (x.dels.drop k))) (fun i _ => x.dels.length - (intOf i).toNat)
  case atStart => exact ⟨0, Nat.zero_le _, rfl, HW.out.1, HW.out.2, by simp⟩
  case round =>
    obtain ⟨k, hk, rfl, HR⟩ := hrel
    have c3 : wr.cell? ⟨w.heap.size, 3, none⟩ = some (.slice s.a x.dels.length s.c) := HR.out.2.1.cell 3
    by_cases hkn : k < x.dels.length
    · obtain ⟨b, o, hidx, hlt, hcs⟩ := HS.out.1.gs.at hkn
      obtain ⟨c0, c1⟩ := hcs wr HR.out.1
      have HST : Hid (errL PG.err x.dels = if (x.dels[k]).err ≠ 0 then (x.dels[k]).err else errL PG.err (x.dels.drop (k + 1))) := by
        show _ = _
        rw [HR.out.2.2, errL_step hkn]
      clear hcs
      generalize x.dels[k] = g at c0 c1 HST
      have HC : Hid (∀ W, Calls Try.prog 46 #[.int .i64 g.level, .int .u64 (g.num : Int)] W fun e w' => e = .returned (.int .i64 ((g.err : Nat) : Int)) ∧ w' = W) := fun W => rplace_any _ _ _
      generalize g.err = ge at HST HC
      go_wp2_with fail
      have d3 : wr.drew.cell? ⟨w.heap.size, 3, none⟩ = some (.slice s.a x.dels.length s.c) := c3
      have d0 : wr.drew.cell? ⟨b, o, none⟩ = some (.int .i64 g.level) := c0
      have d1 : wr.drew.cell? ⟨b, o + 1, none⟩ = some (.int .u64 (g.num : Int)) := c1
      have H2 : Hid (Below w.heap.size w wr.drew ∧ Box wr.drew w.heap.size TE (eA x s)) := ⟨HR.out.1.drew, HR.out.2.1⟩
      go_region_held3 (fun V => V.cell? ⟨w.heap.size, 3, none⟩ = some (.slice s.a x.dels.length s.c) ∧ V.cell? ⟨b, o, none⟩ = some (.int .i64 g.level) ∧ V.cell? ⟨b, o + 1, none⟩ = some (.int .u64 (g.num : Int))) (first | exact ⟨d3, d0, d1⟩ | go_keep)
        (first | (go_at_call 46; refine (HC.out _).mono ?_; rintro _ vx ⟨rfl, hvx⟩; obtain rfl := hvx.symm))
      by_cases hge : ge = 0
      · subst hge
        go_wp2
        go_roundw
        case rel => exact ⟨k + 1, hkn, by go_num, H2.out.1, H2.out.2, HST.out⟩
        case measure => simp only [intOf]; omega
      · have hne : ((ge : Int) != 0) = true := by simp; omega
        have HF : Hid (er = ge) := by
          have e : errL PG.err x.dels = ge := by rw [HST.out, if_pos hge]
          show er = ge
          rw [HE.out, e, if_pos hge]
        go_wp2
        go_ret
        rw [HF.out]
        exact ⟨ret1 rfl, H2.out.1⟩
    · have HE2 : Hid (er = errL PF.err x.adds) := by
        have e : errL PG.err x.dels = 0 := by rw [HR.out.2.2, errL_end (by omega)]
        show er = _
        rw [HE.out, e, if_neg (by simp)]
      go_wp2_with fail
      clear c3
      go_loopw [5] (fun i wy => ∃ k : Nat, k ≤ x.adds.length ∧ i = .int .i64 (k : Int) ∧ Hid (Below w.heap.size w wy ∧ Box wy w.heap.size TE (eA x s) ∧ errL PF.err x.adds = errL PF.err (x.adds.drop k))) (fun i _ => x.adds.length - (intOf i).toNat)
      case atStart => exact ⟨0, Nat.zero_le _, rfl, HR.out.1, HR.out.2.1, by simp⟩
      case round =>
        obtain ⟨j, hj, rfl, HQ⟩ := hrel
        have c4 : wr.cell? ⟨w.heap.size, 4, none⟩ = some (.slice s.a' x.adds.length s.c') := HQ.out.2.1.cell 4
        by_cases hjn : j < x.adds.length
        · obtain ⟨b, o, hidx, hlt, hcs⟩ := HS.out.1.fs.at hjn
          obtain ⟨f0, f1, f2, f3, f4, f5, f6, f7, f8⟩ := hcs wr HQ.out.1
          have HST : Hid (errL PF.err x.adds = if (x.adds[j]).err ≠ 0 then (x.adds[j]).err else errL PF.err (x.adds.drop (j + 1))) := by
            show _ = _
            rw [HQ.out.2.2, errL_step hjn]
          have hwf := HS.out.2 x.adds[j] (List.getElem_mem hjn)
          clear hcs
          generalize x.adds[j] = f at f0 f1 f2 f3 f4 f5 f6 f7 f8 HST hwf
          have HC : Hid (∀ W, Calls Try.prog 35 #[.agg #[.int .i64 f.level, .int .u64 (f.num : Int), .int .i64 f.size, .string f.small.user, .int .u64 (f.small.seq : Int), .int .i64 f.small.kind, .string f.large.user, .int .u64 (f.large.seq : Int), .int .i64 f.large.kind]] W fun e w' => e = .returned (.int .i64 ((f.err : Nat) : Int)) ∧ Below W.heap.size W w') := fun W => rfile_any _ _ hwf
          clear hwf
          go_wp2_with fail
          refine (HC.out _).mono ?_
          rintro _ w2 ⟨rfl, hb2⟩
          have H2 : Hid (Below w.heap.size w w2 ∧ Box w2 w.heap.size TE (eA x s)) := ⟨HQ.out.1.trans (hb2.mono HQ.out.1.size), HQ.out.2.1.kept (hb2.block _ HQ.out.2.1.lt)⟩
          clear hb2 HC
          generalize f.err = ge at HST
          by_cases hge : ge = 0
          · subst hge
            go_wp2
            go_roundw
            case rel => exact ⟨j + 1, hjn, by go_num, H2.out.1, H2.out.2, HST.out⟩
            case measure => simp only [intOf]; omega
          · have hne : ((ge : Int) != 0) = true := by simp; omega
            have HF : Hid (er = ge) := by
              show er = ge
              rw [HE2.out, HST.out, if_pos hge]
            go_wp2
            go_ret
            rw [HF.out]
            exact ⟨ret1 rfl, H2.out.1⟩
        · have HF : Hid (er = 0) := by
            show er = 0
            rw [HE2.out, HQ.out.2.2, errL_end (by omega)]
          go_wp2
          go_ret
          rw [HF.out]
          exact ⟨ret1 rfl, HQ.out.1⟩
end Go.Proofs.Ytcdfgcjecmpjhaa
