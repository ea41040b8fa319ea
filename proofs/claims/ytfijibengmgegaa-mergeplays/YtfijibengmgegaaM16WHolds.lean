/- The walk of MergeHolds, by what is asked of merge's iterator. -/
import Derived.Test.YtfijibengmgegaaQa07
import Derived.Deep.LoopGhost
namespace Go.Proofs.Ytfijibengmgegaa
open Go.RowKit
set_option linter.unusedVariables false
set_option linter.unusedSimpArgs false
theorem told_some {l : List KV} {i : Nat} (h : i < l.length) : told16 l (normO l i) = (l[i], true) := by
  unfold normO
  rw [if_pos h]
  simp [told16, List.getD, h]
theorem told_none {l : List KV} {i : Nat} (h : ¬ i < l.length) : told16 l (normO l i) = (kvZ, false) := by
  unfold normO
  rw [if_neg h]
  rfl
theorem next_norm {l : List KV} {i : Nat} (h : i < l.length) (k : IK) : goP l 4 k (normO l i) = normO l (i + 1) := by
  conv => lhs; unfold normO
  rw [if_pos h]
  rfl
/-- Where a row lies, to be read at a place, or its length alone. -/
theorem LsAt.lens {w : World} {a : Option Addr} {n c : Nat} {L : List (List KV)} (h : LsAt w a n c L) {i : Nat} (hi : i < n) :
    ∃ (b o : Nat) (ai : Option Addr) (ci : Nat), (∀ W : World, (Instr.indexAt 23 (.slice a n c) (.int .i64 (i : Int))).run Try.prog W = .ok (.pointer (some ⟨b, o, none⟩)) W) ∧
      (∀ W, Below w.heap.size w W → W.cell? ⟨b, o, none⟩ = some (.slice ai (lenL L i) ci)) ∧
      ∀ j, j < lenL L i → ∃ q r, (∀ W : World, (Instr.indexAt 26 (.slice ai (lenL L i) ci) (.int .i64 (j : Int))).run Try.prog W = .ok (.pointer (some ⟨q, r, none⟩)) W) ∧
        ∀ W, Below w.heap.size w W → W.cell? ⟨q, r, none⟩ = some (.string (entL L (i, j)).1.user) ∧ W.cell? ⟨q, r + 1, none⟩ = some (.int .u64 ((entL L (i, j)).1.seq : Int)) ∧ W.cell? ⟨q, r + 2, none⟩ = some (.int .i64 (entL L (i, j)).1.kind) ∧ W.cell? ⟨q, r + 3, none⟩ = some (.string (entL L (i, j)).2) := by
  obtain ⟨b, off, hx, hb, hc⟩ := h.spots (by omega)
  obtain ⟨ai, ci, h1, h2, _⟩ := hc i hi
  refine ⟨b, off + i, ai, ci, hx i hi, h1, fun j hj => ?_⟩
  obtain ⟨q, r, hx2, hq, hc2⟩ := h2.spots (show 0 < (rowL L i).length from Nat.lt_of_le_of_lt (Nat.zero_le _) hj)
  refine ⟨q, r + j * 4, hx2 j hj, fun W hW => ?_⟩
  have := hc2 W hW j hj
  rw [rowL_at hj] at this
  exact this
set_option maxRecDepth 100000 in
set_option maxHeartbeats 8000000 in
theorem mergeHolds_of {D : MgRel} (F : MgOk D) (a : Option Addr) (n c : Nat) (L0 : List (List KV)) (w : World) (h : LsAt w a n c L0) :
    Calls Try.prog 6 #[.slice a n c] w fun e w' => e = .returned (.bool true) ∧ Below w.heap.size w w' := by
  have H0 : Hid (LsAt w a n c L0) := h
  clear h
  go_enter Try.func6, Try.ntmps6
  go_wp2_with fail
  refine (awake16 F w).mono ?_
  rintro _ w1 ⟨rfl, hb1⟩
  have H1 : Hid (Below w.heap.size w w1) := hb1
  clear hb1
  go_wp2_with fail
  refine (few_any a n c L0 w1 (H0.out.below H1.out)).mono ?_
  rintro _ w2 ⟨a2, c2, rfl, hl2, hb2⟩
  have HF : Hid (FewL (fewL L0)) := fewL_ok L0
  have HA8 : Hid ((allL (fewL L0)).length ≤ 8000) := fewL_all L0
  have HE2L : Hid (∀ i, lenL (fewL L0) i ≤ 200) := fewL_each L0
  generalize fewL L0 = L at hl2 HF HA8 HE2L ⊢
  have H2 : Hid (Below w.heap.size w w2 ∧ LsAt w2 a2 L.length c2 L) := ⟨H1.out.trans (hb2.mono H1.out.size), hl2⟩
  clear hl2 hb2 H0 H1
  have HL40 : L.length ≤ 1000 := HF.out.1
  go_wp2_with fail
  refine (F.new a2 L.length c2 L w2 H2.out.2 HF.out).mono ?_
  rintro _ w3 ⟨hb3, hcase⟩
  rcases hcase with ⟨hr, p, R3, rfl, hd3, hR3⟩ | ⟨_, rfl⟩
  · have S3 : Hid (MgS D w2 w2.heap.size w3 R3 p L none (fun _ => False)) := MgS.made hd3 hb3 hb3.size hR3
    have HR : Hid (RiseL L) := hr
    clear hd3 hb3 hR3 hr
    go_wp2_with fail
    go_loopw [6] (fun s6 wr => ∃ (i : Nat), i ≤ L.length ∧ s6 = .int .i64 (i : Int) ∧ Hid (∃ R o, MgS D w2 w2.heap.size wr R p L o (fun _ => False))) (fun s6 _ => L.length - (intOf s6).toNat)
    case atStart => exact ⟨0, Nat.zero_le _, rfl, R3, none, S3.out⟩
    case round =>
      clear S3
      obtain ⟨i, hil, rfl, HI⟩ := hrel
      by_cases hi : i < L.length
      · have hiI : (i : Int) < (L.length : Int) := by omega
        obtain ⟨R4, o4, S4'⟩ := HI.out
        have S4 : Hid (MgS D w2 w2.heap.size wr R4 p L o4 (fun _ => False)) := S4'
        clear S4' HI
        go_wp2_with fail
        refine (F.first S4.out.it).mono ?_
        rintro _ w5 ⟨rfl, hp5⟩
        obtain ⟨R5, h5, _, _⟩ := S4.out.step hp5
        have S5 : Hid (MgS D w2 w2.heap.size w5 R5 p L (normO (allL L) 0) (fun _ => False)) := h5
        clear h5 hp5 S4
        go_wp2_with fail
        go_loopg [7] ((allL L).length + 1) (fun kx s7 wr => ∃ (t m : Nat), t ≤ (allL L).length ∧ (allL L).length + 1 - t ≤ kx ∧ s7 = .int .i64 (m : Int) ∧ m ≤ lenL L i ∧ Hid (m = gone16 (rowL L i) 0 ((allL L).take t) ∧ ∃ R, MgS D w2 w2.heap.size wr R p L (normO (allL L) t) (fun _ => False)))
        case atStart => exact ⟨0, 0, Nat.zero_le _, by omega, rfl, Nat.zero_le _, rfl, R5, S5.out⟩
        case round =>
          clear S5
          obtain ⟨t, m, htl, hgk, rfl, hml, HI⟩ := hrel
          obtain ⟨R6, h6⟩ := HI.out.2
          have S6 : Hid (MgS D w2 w2.heap.size wr R6 p L (normO (allL L) t) (fun _ => False)) := h6
          have HM : Hid (m = gone16 (rowL L i) 0 ((allL L).take t)) := HI.out.1
          clear HI h6
          have hll := HE2L.out i
          obtain ⟨bL, oL, aL, cL, hxL, hcL0, hpl0⟩ := H2.out.2.lens hi
          have HCL : Hid (∀ W, Below w2.heap.size w2 W → W.cell? ⟨bL, oL, none⟩ = some (.slice aL (lenL L i) cL)) := hcL0
          have HPL : Hid (∀ j, j < lenL L i → ∃ q r, (∀ W : World, (Instr.indexAt 26 (.slice aL (lenL L i) cL) (.int .i64 (j : Int))).run Try.prog W = .ok (.pointer (some ⟨q, r, none⟩)) W) ∧
            ∀ W, Below w2.heap.size w2 W → W.cell? ⟨q, r, none⟩ = some (.string (entL L (i, j)).1.user) ∧ W.cell? ⟨q, r + 1, none⟩ = some (.int .u64 ((entL L (i, j)).1.seq : Int)) ∧ W.cell? ⟨q, r + 2, none⟩ = some (.int .i64 (entL L (i, j)).1.kind) ∧ W.cell? ⟨q, r + 3, none⟩ = some (.string (entL L (i, j)).2)) := hpl0
          clear hcL0 hpl0
          by_cases ht : t < (allL L).length
          · have HE : Hid (gone16 (rowL L i) 0 ((allL L).take (t + 1)) = if m < (rowL L i).length ∧ eqKV (allL L)[t] ((rowL L i).getD m kvZ) = true then m + 1 else m) := by
              unfold Hid
              rw [List.take_succ_eq_append_getElem ht, gone_snoc, ← HM.out]
            have hA : Calls Try.prog 13 #[at_ p] wr fun e w' => e = .returned (.tuple #[.agg #[.string (allL L)[t].1.user, .int .u64 ((allL L)[t].1.seq : Int), .int .i64 (allL L)[t].1.kind, .string (allL L)[t].2], .bool true]) ∧ MgPost D R6 p L (normO (allL L) t) wr w' := by
              have := F.at' S6.out.it
              rw [told_some ht] at this
              exact this
            have heq := run_eql_kv (allL L)[t] (entL L (i, m))
            unfold kvV kvc at heq
            have HQ : Hid (m < lenL L i → eqKV (allL L)[t] ((rowL L i).getD m kvZ) = eqKV (allL L)[t] (entL L (i, m))) := fun _ => rfl
            generalize (allL L)[t] = e at HE hA heq HQ
            go_wp2_with fail
            refine hA.mono ?_
            rintro _ w7 ⟨rfl, hp7⟩
            obtain ⟨R7, h7, _, _⟩ := S6.out.step hp7
            have S7 : Hid (MgS D w2 w2.heap.size (w7.alloc (.cells #[.string e.1.user, .int .u64 (e.1.seq : Int), .int .i64 e.1.kind, .string e.2] TKV)) R7 p L (normO (allL L) t) (fun k => False ∨ k = w7.heap.size) ∧ Box (w7.alloc (.cells #[.string e.1.user, .int .u64 (e.1.seq : Int), .int .i64 e.1.kind, .string e.2] TKV)) w7.heap.size TKV #[.string e.1.user, .int .u64 (e.1.seq : Int), .int .i64 e.1.kind, .string e.2]) := ⟨h7.alloc F _, Box.new _ _ _⟩
            clear h7 hp7 hA S6
            go_upto_region 15 with fail
            generalize w7.alloc (.cells #[.string e.1.user, .int .u64 (e.1.seq : Int), .int .i64 e.1.kind, .string e.2] TKV) = w8 at S7 ⊢
            generalize w7.heap.size = eb at S7 ⊢
            have c0 := S7.out.2.cell 0
            have c1 := S7.out.2.cell 1
            have c2 := S7.out.2.cell 2
            have c3 := S7.out.2.cell 3
            have hcl := HCL.out _ S7.out.1.low
            by_cases hm : m < lenL L i
            · have hmI : (m : Int) < (lenL L i : Int) := by omega
              obtain ⟨q, r, hx2, hc2⟩ := HPL.out m hm
              obtain ⟨d0, d1, d2, d3⟩ := hc2 _ S7.out.1.low
              clear hc2
              cases hq : eqKV e (entL L (i, m)) with
              | true =>
                have HE2 : Hid (gone16 (rowL L i) 0 ((allL L).take (t + 1)) = m + 1) := by
                  unfold Hid
                  rw [HE.out, if_pos ⟨hm, by rw [HQ.out hm, hq]⟩]
                rw [hq] at heq
                generalize entL L (i, m) = f at d0 d1 d2 d3 heq hq
                generalize lenL L i = ll at *
                go_wp2_with fail
                go_quiet (fail)
                go_wp2_with fail
                have S8 : Hid (MgS D w2 w2.heap.size (w8.drewN nq) R7 p L (normO (allL L) t) (fun _ => False)) := (S7.out.1.drewN F nq).less fun _ h => h.elim
                refine (F.next S8.out.it).mono ?_
                rintro _ w9 ⟨rfl, hp9⟩
                obtain ⟨R9, h9, _, _⟩ := S8.out.step hp9
                rw [next_norm ht] at h9
                go_wp2
                go_roundg ((allL L).length + 1 - (t + 1))
                case measure => omega
                case rel => exact ⟨t + 1, m + 1, ht, Nat.le_refl _, by go_num, hm, HE2.out.symm, R9, h9⟩
              | false =>
                have HE2 : Hid (gone16 (rowL L i) 0 ((allL L).take (t + 1)) = m) := by
                  unfold Hid
                  rw [HE.out, if_neg (fun x => by rw [HQ.out hm, hq] at x; exact absurd x.2 (by decide))]
                rw [hq] at heq
                generalize entL L (i, m) = f at d0 d1 d2 d3 heq hq
                generalize lenL L i = ll at *
                go_wp2_with fail
                go_quiet (fail)
                go_wp2_with fail
                have S8 : Hid (MgS D w2 w2.heap.size (w8.drewN nq) R7 p L (normO (allL L) t) (fun _ => False)) := (S7.out.1.drewN F nq).less fun _ h => h.elim
                refine (F.next S8.out.it).mono ?_
                rintro _ w9 ⟨rfl, hp9⟩
                obtain ⟨R9, h9, _, _⟩ := S8.out.step hp9
                rw [next_norm ht] at h9
                go_wp2
                go_roundg ((allL L).length + 1 - (t + 1))
                case measure => omega
                case rel => exact ⟨t + 1, m, ht, Nat.le_refl _, rfl, hml, HE2.out.symm, R9, h9⟩
            · have hmI : decide ((m : Int) < (lenL L i : Int)) = false := by simp; omega
              have HE2 : Hid (gone16 (rowL L i) 0 ((allL L).take (t + 1)) = m) := by
                unfold Hid
                rw [HE.out, if_neg (fun x => hm x.1)]
              clear heq
              generalize lenL L i = ll at *
              go_wp2_with fail
              go_quiet (fail)
              go_wp2_with fail
              have S8 : Hid (MgS D w2 w2.heap.size (w8.drewN nq) R7 p L (normO (allL L) t) (fun _ => False)) := (S7.out.1.drewN F nq).less fun _ h => h.elim
              refine (F.next S8.out.it).mono ?_
              rintro _ w9 ⟨rfl, hp9⟩
              obtain ⟨R9, h9, _, _⟩ := S8.out.step hp9
              rw [next_norm ht] at h9
              go_wp2
              go_roundg ((allL L).length + 1 - (t + 1))
              case measure => omega
              case rel => exact ⟨t + 1, m, ht, Nat.le_refl _, rfl, hml, HE2.out.symm, R9, h9⟩
          · have hA : Calls Try.prog 13 #[at_ p] wr fun e w' => e = .returned (.tuple #[.agg #[.string ⟨#[]⟩, .int .u64 0, .int .i64 0, .string ⟨#[]⟩], .bool false]) ∧ MgPost D R6 p L (normO (allL L) t) wr w' := by
              have := F.at' S6.out.it
              rw [told_none ht] at this
              exact this
            have hmE : m = lenL L i := by
              rw [HM.out, List.take_of_length_le (by omega)]
              exact gone_sub _ _ 0 (Nat.zero_le _) (by rw [List.drop_zero]; exact row_sub HR.out i)
            have hmb : ((m : Int) != (lenL L i : Int)) = false := by simp; omega
            go_wp2_with fail
            refine hA.mono ?_
            rintro _ w7 ⟨rfl, hp7⟩
            obtain ⟨R7, h7, _, _⟩ := S6.out.step hp7
            have S7 : Hid (MgS D w2 w2.heap.size (w7.alloc (.cells #[.string ⟨#[]⟩, .int .u64 0, .int .i64 0, .string ⟨#[]⟩] TKV)) R7 p L (normO (allL L) t) (fun _ => False)) := (h7.alloc F _).less fun _ h => h.elim
            clear h7 hp7 hA S6
            go_upto_region 18 with fail
            generalize w7.alloc (.cells #[.string ⟨#[]⟩, .int .u64 0, .int .i64 0, .string ⟨#[]⟩] TKV) = w8 at S7 ⊢
            have hcl := HCL.out _ S7.out.low
            go_wp2
            go_roundw
            case rel => exact ⟨i + 1, by omega, by go_num, R7, _, S7.out⟩
            case measure => simp only [intOf]; omega
      · have hiI : ¬ (i : Int) < (L.length : Int) := by omega
        obtain ⟨R9, o9, h9⟩ := HI.out
        go_wp2
        go_ret
        exact ⟨ret1 rfl, H2.out.1.trans (h9.low.mono H2.out.1.size)⟩
  · go_wp2
    go_ret
    exact ⟨rfl, H2.out.1.trans (hb3.mono H2.out.1.size)⟩
end Go.Proofs.Ytfijibengmgegaa
