/- The contract of tell. -/
import Derived.Test.YtehkcgjiimfdjaaRel5
import Derived.BigQuiet
namespace Go.Proofs.Ytehkcgjiimfdjaa
open Go.RowKit
theorem Below.drewN {B : Nat} {a w : World} (h : Below B a w) (n : Nat) : Below B a (w.drewN n) := ⟨h.os, h.tape, h.output, h.size, h.block⟩
theorem Rest.drewN {w w' : World} (h : Rest w w') (n : Nat) : Rest w (w'.drewN n) := ⟨h.size, h.block⟩
section
variable {w0 w : World} {p : Nat} {g : Bg} {B : PB}
theorem BdAt.drewN (h : BdAt w0 w p g B) (n : Nat) : BdAt w0 (w.drewN n) p g B := h.same (fun _ _ => rfl) (Below.drewN h.base n)
theorem BdAt.rowAt (h : BdAt w0 w p g B) {k : Nat} (hk : k < B.ts.length) : ∃ r, g.ta = some ⟨r, 0, none⟩ ∧ w.cell? ⟨r, k, none⟩ = some (at_ (g.q k)) ∧ B.ts.length ≤ g.tc ∧ g.tc ≤ maxLen ∧ r < w.heap.size := by
  rcases h.row.2 with ⟨hv, h0⟩ | ⟨fr, cp, cur, hv, hB, hg, h1, h2, h3, h4⟩
  · omega
  · simp only [Value.slice.injEq, true_and] at hv
    obtain ⟨e1, rfl⟩ := hv
    have hrow := h.row
    rw [e1] at hrow
    have hc := h.count
    have p0 := World.ownsRow.cellAt hrow k (by simp; omega)
    have hk' : k < g.gs.length := by omega
    rw [List.getElem?_map, List.getElem?_eq_getElem hk'] at p0
    refine ⟨fr, e1, ?_, h1, h2, (Array.getElem?_eq_some_iff.1 hg).1⟩
    rw [p0]
    simp [Bg.q, List.getD, hk']
end
set_option maxRecDepth 100000 in
set_option maxHeartbeats 1000000 in
theorem tell_at {w0 w : World} {p : Nat} {g : Bg} {B : PB} (h : BdAt w0 w p g B) (hk : B.Ok) (o a b c : Int) (all : Bool) (ho : (all = true ∧ o = 12) ∨ (all = false ∧ o = 11)) : Calls Try.prog 38 #[at_ p, .agg #[.int .i64 o, .int .i64 a, .int .i64 b, .int .i64 c]] w fun e w' => e = .returned (.tuple #[]) ∧ BdAt w0 w' p g { B with ts := tellL a all B.ts } ∧ Rest w w' := by
  obtain ⟨b0, b1, b2, b3⟩ := h.bcell hk.cells hk.own
  clear b3
  have hplt := tag_lt h.tagP
  have hqs : ∀ k, k < B.ts.length → g.q k < w.heap.size := fun k hk => tag_lt (h.tagQ hk)
  have HA := h.alloc (.cells #[.int .i64 o, .int .i64 a, .int .i64 b, .int .i64 c] 37)
  have HX := Box.new w 37 #[.int .i64 o, .int .i64 a, .int .i64 b, .int .i64 c]
  have HR := Rest.alloc w (.cells #[.int .i64 o, .int .i64 a, .int .i64 b, .int .i64 c] 37)
  clear b0 b1
  obtain ⟨n, HN⟩ : ∃ n, Hid (n = B.ts.length) := ⟨_, rfl⟩
  rw [← HN.out] at b2
  go_enter Try.func38, Try.ntmps38
  go_wp2
  go_loopw [11] (fun i wr => ∃ (k : Nat) (T : List PTask), k ≤ n ∧ i = .int .i64 (k : Int) ∧ T.length = k ∧ Hid (tellL a all B.ts = T ++ tellL a all (B.ts.drop k)) ∧ Hid (BdAt w0 wr p g { B with ts := T ++ B.ts.drop k }) ∧ Hid (Rest w wr) ∧ Hid (Box wr w.heap.size 37 #[.int .i64 o, .int .i64 a, .int .i64 b, .int .i64 c])) (fun i _ => n - (intOf i).toNat)
  case atStart => exact ⟨0, [], Nat.zero_le _, rfl, rfl, rfl, HA, HR, HX⟩
  case round =>
    obtain ⟨k, T, hkn, rfl, hT, HE, HB, HR1, HX1⟩ := hrel
    clear HA HX HR
    by_cases hlt : k < n
    · have hlt' : k < B.ts.length := by rw [← HN.out]; exact hlt
      have hTk := hk.tasks k hlt'
      have ed : B.ts.drop k = B.t k :: B.ts.drop (k + 1) := by
        rw [List.drop_eq_getElem_cons hlt']
        simp [PB.t, List.getD, hlt']
      have hln : ({ B with ts := T ++ B.ts.drop k } : PB).ts.length = n := by
        show (T ++ B.ts.drop k).length = n
        rw [List.length_append, List.length_drop, hT, HN.out]
        omega
      have et : ({ B with ts := T ++ B.ts.drop k } : PB).t k = B.t k := by
        show (T ++ B.ts.drop k).getD k task0 = B.t k
        rw [ed]
        simp [List.getD, hT]
      obtain ⟨r, hra, rk, hle, hmx, hrlt⟩ := HB.out.rowAt (k := k) (by rw [hln]; exact hlt)
      rw [hln] at hle
      obtain ⟨c0, c1, c2, c7, cr⟩ := HB.out.tcell (i := k) (by rw [hln]; exact hlt) (by rw [et]; exact hTk.regs)
      rw [et] at c1 c2 c7
      have x0 := HX1.out.cell 0
      have x1 := HX1.out.cell 1
      simp at x0 x1
      have s7 := HB.out.tsoft (i := k) (by rw [hln]; exact hlt) 7
      clear cr c0
      rw [hra]
      unfold maxLen at hmx
      have hx1 : (0 : Int) ≤ (k : Int) := by omega
      have hx2 : (k : Int) < (n : Int) := by omega
      by_cases hm : (B.t k).ph = 1
      · have hpl := hTk.place (by omega)
        have hI := HB.out.codeAt (i := k) (by rw [hln]; exact hlt)
        rw [et] at hI
        have hle2 := hI.le
        have hmx2 := hI.max
        unfold maxLen at hmx2
        obtain ⟨bb, off, hca, hc⟩ := hI.here (by omega)
        obtain ⟨i0, i1, i2, i3⟩ := hc _ hpl
        clear i0 i2 i3
        have ei : (B.t k).code.getD (B.t k).place ins0 = (B.t k).ins := rfl
        rw [ei] at i1
        rw [hca] at c1
        rw [hm] at c7
        clear hc hI hca ei
        have hy1 : (0 : Int) ≤ ((B.t k).place : Int) := by omega
        have hy2 : ((B.t k).place : Int) < ((B.t k).code.length : Int) := by omega
        by_cases ha : (B.t k).ins.a = a
        · rw [ha] at i1
          have e2 : tellL a all (B.ts.drop k) = (B.t k).at 2 :: (if all then tellL a all (B.ts.drop (k + 1)) else B.ts.drop (k + 1)) := by
            rw [ed, tellL, if_pos ⟨hm, ha⟩]
          have HP : Hid (∀ nq, BdAt w0 ((wr.drewN nq).setCell ⟨g.q k, 7, none⟩ (.int .i64 2)) p g { B with ts := T ++ (B.t k).at 2 :: B.ts.drop (k + 1) }) := by
            intro nq
            have := (HB.out.drewN nq).phase (i := k) (by rw [hln]; exact hlt) (by rw [et]; exact hTk.regs) 2
            rw [et] at this
            have e3 : ({ B with ts := T ++ B.ts.drop k } : PB).setT k ((B.t k).at 2) = { B with ts := T ++ (B.t k).at 2 :: B.ts.drop (k + 1) } := by
              unfold PB.setT
              simp only [ed]
              congr 1
              rw [List.set_append, if_neg (by omega), hT, Nat.sub_self]
              rfl
            rw [e3] at this
            exact this
          have HQ : Hid (∀ nq, Rest w ((wr.drewN nq).setCell ⟨g.q k, 7, none⟩ (.int .i64 2))) := fun nq => (HR1.out.drewN nq).trans ((HB.out.drewN nq).restT (i := k) (by rw [hln]; exact hlt) 7 _)
          have HZ : Hid (∀ nq, Box ((wr.drewN nq).setCell ⟨g.q k, 7, none⟩ (.int .i64 2)) w.heap.size 37 #[.int .i64 o, .int .i64 a, .int .i64 b, .int .i64 c]) := fun nq => Box.other (w := wr.drewN nq) (show Box (wr.drewN nq) _ _ _ from HX1.out) (Nat.ne_of_gt (hqs k hlt')) 7 _
          have HE2 : Hid (tellL a all B.ts = T ++ (B.t k).at 2 :: (if all then tellL a all (B.ts.drop (k + 1)) else B.ts.drop (k + 1))) := by
            unfold Hid
            rw [HE.out, e2]
          clear e2 et ed HE
          rcases ho with ⟨rfl, rfl⟩ | ⟨rfl, rfl⟩
          · go_wp2
            go_quiet (fail)
            go_wp2
            go_roundw
            case rel =>
              refine ⟨k + 1, T ++ [(B.t k).at 2], by omega, by go_num, by simp [hT], ?_, ?_, HQ.out _, HZ.out _⟩
              · unfold Hid
                rw [HE2.out, List.append_assoc]
                rfl
              · unfold Hid
                rw [List.append_assoc]
                exact HP.out _
            case measure => simp [intOf]; omega
          · go_wp2
            go_quiet (fail)
            go_wp2
            go_returns
            rw [HE2.out]
            exact ⟨rfl, HP.out _, HQ.out _⟩
        · have HE2 : Hid (tellL a all B.ts = (T ++ [B.t k]) ++ tellL a all (B.ts.drop (k + 1))) := by
            unfold Hid
            rw [HE.out, ed, tellL, if_neg (fun h => ha h.2), List.append_assoc]
            rfl
          have HB2 : Hid (BdAt w0 wr p g { B with ts := (T ++ [B.t k]) ++ B.ts.drop (k + 1) }) := by
            have := HB.out
            rw [ed] at this
            unfold Hid
            rw [List.append_assoc]
            exact this
          clear et ed HE
          generalize (B.t k).ins.a = ia at *
          go_wp2
          go_quiet (fail)
          go_wp2
          go_roundw
          case rel => exact ⟨k + 1, T ++ [B.t k], by omega, by go_num, by simp [hT], HE2.out, HB2.out.drewN _, HR1.out.drewN _, HX1.out⟩
          case measure => simp [intOf]; omega
      · have HE2 : Hid (tellL a all B.ts = (T ++ [B.t k]) ++ tellL a all (B.ts.drop (k + 1))) := by
          unfold Hid
          rw [HE.out, ed, tellL, if_neg (fun h => hm h.1), List.append_assoc]
          rfl
        have HB2 : Hid (BdAt w0 wr p g { B with ts := (T ++ [B.t k]) ++ B.ts.drop (k + 1) }) := by
          have := HB.out
          rw [ed] at this
          unfold Hid
          rw [List.append_assoc]
          exact this
        have hph := hTk.ph
        clear et ed HE
        have h1 : ((B.t k).ph : Int) ≠ 1 := by omega
        have h2 : (((B.t k).ph : Int) != 1) = true := by simp; omega
        generalize ((B.t k).ph : Int) = ph at *
        go_wp2
        go_quiet (fail)
        go_wp2
        go_roundw
        case rel => exact ⟨k + 1, T ++ [B.t k], by omega, by go_num, by simp [hT], HE2.out, HB2.out.drewN _, HR1.out.drewN _, HX1.out⟩
        case measure => simp [intOf]; omega
    · obtain rfl : k = n := by omega
      go_wp2
      go_returns
      have hd : B.ts.drop k = [] := List.drop_eq_nil_of_le (by rw [← HN.out]; exact Nat.le_refl _)
      have h1 := HE.out
      have h2 := HB.out
      rw [hd] at h1 h2
      rw [h1]
      exact ⟨rfl, h2, HR1.out⟩
end Go.Proofs.Ytehkcgjiimfdjaa
