/- The contract of version's Check. -/
import Derived.Test.YtcdfgcjecmpjhaaV14May
import Derived.Test.YtcdfgcjecmpjhaaV14Nums
namespace Go.Proofs.Ytcdfgcjecmpjhaa
open Go.RowKit
set_option linter.unusedVariables false
set_option linter.unusedSimpArgs false
theorem nodup_adj : ∀ (l : List Nat), l.Pairwise (· ≤ ·) → (∀ j (h : j + 1 < l.length), l[j] ≠ l[j + 1]) → l.Nodup
  | [], _, _ => List.nodup_nil
  | x :: r, hp, ha => by
    have p := List.pairwise_cons.1 hp
    rw [List.nodup_cons]
    refine ⟨fun hx => ?_, nodup_adj r p.2 (fun j h => by have := ha (j + 1) (by simp; omega); simpa using this)⟩
    obtain ⟨i, hi, e⟩ := List.getElem_of_mem hx
    have h0 := ha 0 (by simp; omega)
    simp only [List.getElem_cons_zero, Nat.zero_add, List.getElem_cons_succ] at h0
    have h1 := p.1 r[0] (List.getElem_mem _)
    have h2 : r[0] ≤ r[i] := by
      rcases Nat.eq_zero_or_pos i with rfl | hpos
      · exact Nat.le_refl _
      · exact List.pairwise_iff_getElem.1 p.2 0 i (by omega) hi hpos
    omega
theorem not_nodup {l : List Nat} {j : Nat} (h : j + 1 < l.length) (e : l[j] = l[j + 1]) : ¬ l.Nodup := fun hn => by
  have := List.pairwise_iff_getElem.1 (List.nodup_iff_pairwise_ne.1 hn) j (j + 1) (by omega) h (by omega)
  exact this e
def chkV (v : PV) : Nat := if okV v = true then 0 else 140
theorem chkV_yes {v : PV} (h : VOk v) : chkV v = 0 := by unfold chkV; rw [if_pos (okV_iff.2 h)]
theorem chkV_no {v : PV} (h : ¬ VOk v) : chkV v = 140 := by unfold chkV; rw [if_neg (fun hx => h (okV_iff.1 hx))]
set_option maxRecDepth 100000 in
set_option maxHeartbeats 4000000 in
theorem vcheck_any (v : PV) (s : SV) (w : World) (h : VnAt w v s) (hw : WfV v) (hn : v.all.length < 65536) :
    Calls Try.prog 14 #[.agg #[.slice (s.a 0) (v 0).length (s.c 0), .slice (s.a 1) (v 1).length (s.c 1), .slice (s.a 2) (v 2).length (s.c 2), .slice (s.a 3) (v 3).length (s.c 3)]] w fun e w' => e = .returned (.int .i64 ((chkV v : Nat) : Int)) ∧ Below w.heap.size w w' := by
  have HV : Hid (VnAt w v s ∧ WfV v ∧ v.all.length < 65536) := ⟨h, hw, hn⟩
  have HB0 : Hid (Below w.heap.size w (w.alloc (.cells (vA v s) TVn)) ∧ Box (w.alloc (.cells (vA v s) TVn)) w.heap.size TVn (vA v s)) := ⟨(Below.refl _ _).alloc (Nat.le_refl _) _, Box.new _ _ _⟩
  have HYN : Hid ((VOk v → chkV v = 0) ∧ (¬ VOk v → chkV v = 140)) := ⟨chkV_yes, chkV_no⟩
  generalize chkV v = cv at HYN ⊢
  clear h hw hn
  go_enter Try.func14, Try.ntmps14
  go_wp2_with fail
  go_loopw [9] (fun s9 wr => ∃ (k : Nat), k ≤ 4 ∧ s9 = .int .i64 (k : Int) ∧ Hid (Below w.heap.size w wr ∧ Box wr w.heap.size TVn (vA v s) ∧ ∀ n, n < k → LvOk n (v n))) (fun s9 _ => 4 - (intOf s9).toNat)
  case atStart => exact ⟨0, by omega, rfl, HB0.out.1, HB0.out.2, fun n hn => by omega⟩
  case round =>
    obtain ⟨k, hk4, rfl, HI⟩ := hrel
    by_cases hk : k < 4
    · have hidx := idx_arr v s k hk
      have hkI : (k : Int) < 4 := by omega
      have hm := mayStand_any k (s.a k) (v k).length (s.c k) wr ((HV.out.1 k hk).below HI.out.1) (HV.out.2.1 k hk)
      go_wp2_with fail
      refine hm.mono ?_
      rintro _ w2 ⟨q, rfl, hq, hb2⟩
      have H2 : Hid ((q = true ↔ LvOk k (v k)) ∧ Below w.heap.size w w2 ∧ Box w2 w.heap.size TVn (vA v s)) := ⟨hq, HI.out.1.trans (hb2.mono HI.out.1.size), HI.out.2.1.kept (hb2.block _ HI.out.2.1.lt)⟩
      clear hq hb2 hm
      cases q with
      | true =>
        go_wp2
        go_roundw
        case rel =>
          refine ⟨k + 1, hk, by go_num, H2.out.2.1, H2.out.2.2, fun n hn => ?_⟩
          by_cases e : n = k
          · subst e
            exact H2.out.1.1 (by first | rfl | trivial)
          · exact HI.out.2.2 n (by omega)
        case measure => simp only [intOf]; omega
      | false =>
        go_wp2
        go_ret
        have hno : ¬ VOk v := fun h => by
          have := H2.out.1.2 (h.lv k hk)
          cases this
        rw [HYN.out.2 hno]
        exact ⟨ret1 rfl, H2.out.2.1⟩
    · obtain rfl : k = 4 := by omega
      have hnm := nums_any v s wr (HV.out.1.below HI.out.1) HV.out.2.2
      obtain ⟨x0, x1, x2, x3⟩ := HI.out.2.1.fourV
      go_wp2_with fail
      refine hnm.mono ?_
      rintro _ w2 ⟨a, n, c, l, rfl, ho, hp, hr, hb2⟩
      have hls := ho.size
      have H2 : Hid (UsAt w2 a n c l ∧ l.Perm (v.all.map PF.num) ∧ l.Pairwise (· ≤ ·) ∧ Below w.heap.size w w2 ∧ l.length = n) := ⟨ho.us, hp, hr, HI.out.1.trans (hb2.mono HI.out.1.size), hls⟩
      have hn6 : n < 65536 := by
        have := hp.length_eq
        have h6 := HV.out.2.2
        rw [List.length_map] at this
        omega
      clear ho hp hr hb2 hnm x0 x1 x2 x3 hls
      go_wp2_with fail
      go_loopw [6] (fun s6 wq => ∃ i : Nat, 1 ≤ i ∧ (i ≤ n ∨ i = 1) ∧ s6 = .int .i64 (i : Int) ∧ Hid (Below w2.heap.size w2 wq ∧ ∀ j (hj : j + 1 < i) (hl : j + 1 < l.length), l[j] ≠ l[j + 1])) (fun s6 _ => n - (intOf s6).toNat)
      case atStart => exact ⟨1, Nat.le_refl _, .inr rfl, rfl, Below.refl _ _, fun j hj => by omega⟩
      case round =>
        obtain ⟨i, hi1, hin, rfl, HJ⟩ := hrel
        by_cases hi : i < n
        · have hil : i < l.length := by rw [H2.out.2.2.2.2]; exact hi
          have hil' : i - 1 < l.length := by omega
          obtain ⟨b, o, hidx, _, hcs⟩ := H2.out.1.at hil
          obtain ⟨b', o', hidx', _, hcs'⟩ := H2.out.1.at hil'
          rw [show ((i - 1 : Nat) : Int) = (i : Int) - 1 by omega] at hidx'
          have c0 := hcs wr HJ.out.1
          have c1 := hcs' wr HJ.out.1
          have HE : Hid ((l[i] = l[i - 1] → ¬ VOk v) ∧ (l[i] ≠ l[i - 1] → ∀ j (hj : j + 1 < i + 1) (hl : j + 1 < l.length), l[j] ≠ l[j + 1])) := by
            constructor
            · intro e hV
              have h1 : ¬ l.Nodup := not_nodup (j := i - 1) (by omega) (by rw [← e]; congr 1; omega)
              exact h1 (H2.out.2.1.nodup_iff.2 hV.one)
            · intro e j hj hl
              by_cases ej : j = i - 1
              · subst ej
                intro e2
                apply e
                rw [e2]
                congr 1
                omega
              · exact HJ.out.2 j (by omega) hl
          clear hcs hcs'
          generalize l[i] = p at c0 HE
          generalize l[i - 1] = q at c1 HE
          by_cases hpq : p = q
          · subst hpq
            go_wp2_with fail
            go_quiet (fail)
            go_wp2
            go_ret
            rw [HYN.out.2 (HE.out.1 (by first | rfl | trivial))]
            exact ⟨ret1 rfl, (H2.out.2.2.2.1.trans (HJ.out.1.mono H2.out.2.2.2.1.size)).trans ⟨rfl, rfl, rfl, Nat.le_refl _, fun _ _ => rfl⟩⟩
          · have hpb : ((q : Int) == (p : Int)) = false := beq_eq_false_iff_ne.2 (by omega)
            go_wp2_with fail
            go_quiet (fail)
            go_wp2
            go_roundw
            case rel => exact ⟨i + 1, by omega, .inl (by omega), by go_num, HJ.out.1.trans ⟨rfl, rfl, rfl, Nat.le_refl _, fun _ _ => rfl⟩, HE.out.2 hpq⟩
            case measure => simp only [intOf]; omega
        · go_wp2
          go_ret
          have hyes : VOk v := by
            refine ⟨fun n hn => HI.out.2.2 n hn, H2.out.2.1.nodup_iff.1 (nodup_adj l H2.out.2.2.1 (fun j hj => HJ.out.2 j ?_ hj))⟩
            have := H2.out.2.2.2.2
            omega
          rw [HYN.out.1 hyes]
          exact ⟨ret1 rfl, H2.out.2.2.2.1.trans (HJ.out.1.mono H2.out.2.2.2.1.size)⟩
end Go.Proofs.Ytcdfgcjecmpjhaa
