/- The walk of MergeGoes, by what is asked of merge's iterator. -/
import Derived.Test.YtfijibengmgegaaQa07
import Derived.Test.YtfijibengmgegaaM16WHolds
namespace Go.Proofs.Ytfijibengmgegaa
open Go.RowKit
set_option linter.unusedVariables false
set_option linter.unusedSimpArgs false
/-- Ahead of the entry at j. -/
def backO (j : Nat) : Option Nat := if j = 0 then none else some (j - 1)
theorem told_back {l : List KV} {j : Nat} (h : j < l.length) : told16 l (backO (j + 1)) = (l[j], true) := by
  unfold backO
  rw [if_neg (by omega)]
  simp [told16, List.getD, h]
theorem prev_back {l : List KV} {j : Nat} (k : IK) : goP l 5 k (backO (j + 1)) = backO j := by
  conv => lhs; unfold backO
  rw [if_neg (by omega)]
  rfl
theorem prev_norm {l : List KV} {i : Nat} (h : i < l.length) (hi : 0 < i) (k : IK) : goP l 5 k (normO l i) = normO l (i - 1) := by
  unfold normO
  rw [if_pos h, if_pos (by omega)]
  show (if i = 0 then none else some (i - 1)) = _
  rw [if_neg (by omega)]
theorem last_back {l : List KV} (k : IK) (o : Option Nat) : goP l 2 k o = backO l.length := rfl
theorem all_cmp {L : List (List KV)} (hL : RiseL L) {i : Nat} (h : i + 1 < (allL L).length) : (allL L)[i].1.cmp (allL L)[i + 1].1 ≤ 0 := by
  have h1 : i + 1 < (allP L).length := by simpa [allL] using h
  have h2 := List.pairwise_iff_getElem.1 (all_rises hL) i (i + 1) (by omega) h1 (by omega)
  have e1 : (allL L)[i] = entL L ((allP L)[i]'(by omega)) := by simp [allL]
  have e2 : (allL L)[i + 1] = entL L ((allP L)[i + 1]'h1) := by simp [allL]
  rw [e1, e2]
  rcases h2 with h2 | h2
  · exact Int.le_of_lt h2
  · exact Int.le_of_eq h2.1
theorem sum_step (v : Nat → Nat) (i : Nat) : sumV v (i + 1) = sumV v i + v i := rfl
theorem all_sum (L : List (List KV)) : sumV (lenL L) L.length = (allL L).length := by rw [← all_len]; simp [allL]
theorem sum_mono (v : Nat → Nat) {i n : Nat} (h : i ≤ n) : sumV v i ≤ sumV v n := by
  induction n with
  | zero => have : i = 0 := by omega
            subst this; exact Nat.le_refl _
  | succ n ih =>
    by_cases e : i = n + 1
    · subst e; exact Nat.le_refl _
    · have := ih (by omega)
      show sumV v i ≤ sumV v n + v n
      omega
set_option maxRecDepth 100000 in
set_option maxHeartbeats 8000000 in
theorem mergeGoes_of {D : MgRel} (F : MgOk D) (a : Option Addr) (n c : Nat) (L0 : List (List KV)) (w : World) (h : LsAt w a n c L0) :
    Calls Try.prog 5 #[.slice a n c] w fun e w' => e = .returned (.bool true) ∧ Below w.heap.size w w' := by
  have H0 : Hid (LsAt w a n c L0) := h
  clear h
  go_enter Try.func5, Try.ntmps5
  go_wp2_with fail
  refine (awake16 F w).mono ?_
  rintro _ w1 ⟨rfl, hb1⟩
  have H1 : Hid (Below w.heap.size w w1) := hb1
  clear hb1
  go_wp2_with fail
  refine (few_any a n c L0 w1 (H0.out.below H1.out)).mono ?_
  rintro _ w2 ⟨a2, c2, rfl, hl2, hb2⟩
  have HF : Hid (FewL (fewL L0)) := fewL_ok L0
  have HA8 : Hid ((allL (fewL L0)).length ≤ 8000) := fewL_all L0
  have HE2L : Hid (∀ i, lenL (fewL L0) i ≤ 200) := fewL_each L0
  generalize fewL L0 = L at hl2 HF HA8 HE2L ⊢
  have H2 : Hid (Below w.heap.size w w2 ∧ LsAt w2 a2 L.length c2 L) := ⟨H1.out.trans (hb2.mono H1.out.size), hl2⟩
  clear hl2 hb2 H0 H1
  have HL40 : L.length ≤ 1000 := HF.out.1
  go_wp2_with fail
  refine (F.new a2 L.length c2 L w2 H2.out.2 HF.out).mono ?_
  rintro _ w3 ⟨hb3, hcase⟩
  rcases hcase with ⟨hr, p, R3, rfl, hd3, hR3⟩ | ⟨_, rfl⟩
  · have S3 : Hid (MgS D w2 w2.heap.size w3 R3 p L none (fun _ => False)) := MgS.made hd3 hb3 hb3.size hR3
    have HR : Hid (RiseL L) := hr
    clear hd3 hb3 hR3 hr
    go_wp2_with fail
    go_loopw [6, 7] (fun s6 s7 wr => ∃ (i : Nat), i ≤ L.length ∧ s7 = .int .i64 (i : Int) ∧ s6 = .int .i64 ((sumV (lenL L) i : Nat) : Int) ∧ wr = w3) (fun _ s7 _ => L.length - (intOf s7).toNat)
    case atStart => exact ⟨0, Nat.zero_le _, rfl, rfl, rfl⟩
    case round =>
      obtain ⟨i, hil, rfl, rfl, rfl⟩ := hrel
      have hsm : sumV (lenL L) i ≤ 8000 := by
        have h1 := sum_mono (lenL L) hil
        have h2 := HA8.out
        rw [all_sum] at h1
        omega
      by_cases hi : i < L.length
      · have hiI : (i : Int) < (L.length : Int) := by omega
        obtain ⟨bL, oL, aL, cL, hxL, hcL0, _⟩ := H2.out.2.lens hi
        have hcl := hcL0 _ S3.out.low
        have hll := HE2L.out i
        have HSS : Hid (((sumV (lenL L) (i + 1) : Nat) : Int) = ((sumV (lenL L) i : Nat) : Int) + (lenL L i : Int)) := by unfold Hid; rw [sum_step]; omega
        clear hcL0
        generalize lenL L i = ll at *
        go_wp2
        go_roundw
        case rel => exact ⟨i + 1, by omega, by go_num, by rw [HSS.out], by first | rfl | trivial⟩
        case measure => simp only [intOf]; omega
      · obtain rfl : i = L.length := by omega
        have hall := all_sum L
        rw [hall]
        rw [hall] at hsm
        clear hall
        have hiI : ¬ (L.length : Int) < (L.length : Int) := by omega
        go_wp2_with fail
        refine (F.first S3.out.it).mono ?_
        rintro _ w5 ⟨rfl, hp5⟩
        obtain ⟨R5, h5, _, _⟩ := S3.out.step hp5
        have S5 : Hid (MgS D w2 w2.heap.size w5 R5 p L (normO (allL L) 0) (fun _ => False)) := h5
        clear h5 hp5 S3
        obtain ⟨N, hN⟩ : ∃ N, N = (allL L).length := ⟨_, rfl⟩
        rw [← hN]
        rw [← hN] at hsm
        have HN : Hid (N = (allL L).length) := hN
        clear hN
        go_wp2_with fail
        go_loopw [8, 9] (fun s8 s9 wr => ∃ (i : Nat) (a' : Option Addr) (c' : Nat), i ≤ N ∧ s9 = .int .i64 (i : Int) ∧ s8 = .slice a' i c' ∧ Hid (OwnK wr w2.heap.size a' i c' ((allL L).take i) ∧ ∃ R, MgS D w2 w2.heap.size wr R p L (normO (allL L) i) (fun k => blkOf a' = some k))) (fun _ s9 _ => N + 1 - (intOf s9).toNat)
        case atStart => exact ⟨0, none, 0, Nat.zero_le _, rfl, rfl, OwnK.nil _ _, R5, S5.out.less fun k hk => by simp [blkOf] at hk⟩
        case round =>
          clear S5
          obtain ⟨i, a6, c6, hiN, rfl, rfl, HI⟩ := hrel
          obtain ⟨R6, h6⟩ := HI.out.2
          have S6 : Hid (MgS D w2 w2.heap.size wr R6 p L (normO (allL L) i) (fun k => blkOf a6 = some k)) := h6
          have O6 : Hid (OwnK wr w2.heap.size a6 i c6 ((allL L).take i)) := HI.out.1
          clear HI h6
          have hiNI : (i : Int) ≤ (N : Int) := by omega
          by_cases hi : i < N
          · have HIL : Hid (i < (allL L).length) := by have := HN.out; unfold Hid; omega
            have HTK : Hid ((allL L).take (i + 1) = (allL L).take i ++ [(allL L)[i]'HIL.out]) := List.take_succ_eq_append_getElem HIL.out
            have HA : Hid (∀ (W : World) (R : Nat → Prop), D W R p L (normO (allL L) i) → Calls Try.prog 13 #[at_ p] W fun e w' => e = .returned (.tuple #[.agg #[.string ((allL L)[i]'HIL.out).1.user, .int .u64 (((allL L)[i]'HIL.out).1.seq : Int), .int .i64 ((allL L)[i]'HIL.out).1.kind, .string ((allL L)[i]'HIL.out).2], .bool true]) ∧ MgPost D R p L (normO (allL L) i) W w') := fun W R hd => by
              have := F.at' hd
              rw [told_some HIL.out] at this
              exact this
            have heq := run_neq_kv16 ((allL L)[i]'HIL.out) ((allL L)[i]'HIL.out)
            rw [show eqKV ((allL L)[i]'HIL.out) ((allL L)[i]'HIL.out) = true from eqKV_iff.2 rfl] at heq
            unfold kvV kvc at heq
            rw [show (!true) = false from rfl] at heq
            generalize ((allL L)[i]'HIL.out) = e at HTK HA heq
            go_wp2_with fail
            refine (HA.out _ _ S6.out.it).mono ?_
            rintro _ w7 ⟨rfl, hp7⟩
            obtain ⟨R7, h7, k7, _⟩ := S6.out.step hp7
            have S7 : Hid (MgS D w2 w2.heap.size (w7.alloc (.cells #[.string e.1.user, .int .u64 (e.1.seq : Int), .int .i64 e.1.kind, .string e.2] TKV)) R7 p L (normO (allL L) i) (fun k => blkOf a6 = some k ∨ k = w7.heap.size) ∧ Box (w7.alloc (.cells #[.string e.1.user, .int .u64 (e.1.seq : Int), .int .i64 e.1.kind, .string e.2] TKV)) w7.heap.size TKV #[.string e.1.user, .int .u64 (e.1.seq : Int), .int .i64 e.1.kind, .string e.2] ∧ OwnK (w7.alloc (.cells #[.string e.1.user, .int .u64 (e.1.seq : Int), .int .i64 e.1.kind, .string e.2] TKV)) w2.heap.size a6 i c6 ((allL L).take i)) := ⟨h7.alloc F _, Box.new _ _ _, (O6.out.kept k7).alloc _⟩
            clear h7 hp7 k7 S6 O6
            go_upto_region 22 with fail
            generalize w7.alloc (.cells #[.string e.1.user, .int .u64 (e.1.seq : Int), .int .i64 e.1.kind, .string e.2] TKV) = w8 at S7 ⊢
            generalize w7.heap.size = eb at S7 ⊢
            by_cases hi0 : i = 0
            · subst hi0
              have S10 : Hid (MgS D w2 w2.heap.size w8 R7 p L (normO (allL L) 0) (fun k => blkOf a6 = some k ∨ k = eb) ∧ Box w8 eb TKV #[.string e.1.user, .int .u64 (e.1.seq : Int), .int .i64 e.1.kind, .string e.2] ∧ OwnK w8 w2.heap.size a6 0 c6 ((allL L).take 0)) := S7.out
              clear S7
              go_wp2_with fail
              refine (HA.out _ _ S10.out.1.it).mono ?_
              rintro _ wB ⟨rfl, hpB⟩
              obtain ⟨RB, hB, kB, _⟩ := S10.out.1.step hpB
              have S11 : Hid (MgS D w2 w2.heap.size (wB.alloc (.cells #[.string e.1.user, .int .u64 (e.1.seq : Int), .int .i64 e.1.kind, .string e.2] TKV)) RB p L (normO (allL L) 0) (fun k => blkOf a6 = some k) ∧ Box (wB.alloc (.cells #[.string e.1.user, .int .u64 (e.1.seq : Int), .int .i64 e.1.kind, .string e.2] TKV)) eb TKV #[.string e.1.user, .int .u64 (e.1.seq : Int), .int .i64 e.1.kind, .string e.2] ∧ OwnK (wB.alloc (.cells #[.string e.1.user, .int .u64 (e.1.seq : Int), .int .i64 e.1.kind, .string e.2] TKV)) w2.heap.size a6 0 c6 ((allL L).take 0) ∧ Box (wB.alloc (.cells #[.string e.1.user, .int .u64 (e.1.seq : Int), .int .i64 e.1.kind, .string e.2] TKV)) wB.heap.size TKV #[.string e.1.user, .int .u64 (e.1.seq : Int), .int .i64 e.1.kind, .string e.2]) := ⟨(hB.alloc F _).less fun k hk => .inl (.inl hk), (S10.out.2.1.kept (kB _ (.inr rfl))).alloc _, (S10.out.2.2.kept fun k hk => kB k (.inl hk)).alloc _, Box.new _ _ _⟩
              clear hB kB hpB S10
              go_upto_region 26 with fail
              generalize wB.alloc (.cells #[.string e.1.user, .int .u64 (e.1.seq : Int), .int .i64 e.1.kind, .string e.2] TKV) = wC at S11 ⊢
              generalize wB.heap.size = ec at S11 ⊢
              have c0 := S11.out.2.1.cell 0
              have c1 := S11.out.2.1.cell 1
              have c2 := S11.out.2.1.cell 2
              have c3 := S11.out.2.1.cell 3
              have d0 := S11.out.2.2.2.cell 0
              have d1 := S11.out.2.2.2.cell 1
              have d2 := S11.out.2.2.2.cell 2
              have d3 := S11.out.2.2.2.cell 3
              go_wp2_with (first
                | (at_builtin; refine wpList_pushL wC rfl (.tmp 81) (.tmp 83) rfl w2.heap.size a6 0 c6 ((allL L).take 0) rfl S11.out.2.2.1 e #[.string e.1.user, .int .u64 (e.1.seq : Int), .int .i64 e.1.kind, .string e.2] rfl wC.heap.size rfl rfl (by omega) S11.out.1.top ?_
                   intro aD cD wD hoD hgD hlD
                   obtain ⟨hmD, _⟩ := S11.out.1.push F (fun k hk => hk) S11.out.2.2.1 hoD hgD hlD
                   have S12 : Hid (MgS D w2 w2.heap.size wD RB p L (normO (allL L) 0) (fun k => blkOf aD = some k) ∧ OwnK wD w2.heap.size aD (0 + 1) cD ((allL L).take (0 + 1))) := ⟨hmD.less fun k hk => .inr hk, by rw [HTK.out]; exact hoD⟩
                   clear hmD hoD hgD hlD c0 c1 c2 c3 d0 d1 d2 d3 S11))
              refine (F.next S12.out.1.it).mono ?_
              rintro _ wE ⟨rfl, hpE⟩
              obtain ⟨RE, hE, kE, _⟩ := S12.out.1.step hpE
              rw [next_norm HIL.out] at hE
              have S13 : Hid (MgS D w2 w2.heap.size wE RE p L (normO (allL L) (0 + 1)) (fun k => blkOf aD = some k) ∧ OwnK wE w2.heap.size aD (0 + 1) cD ((allL L).take (0 + 1))) := ⟨hE, S12.out.2.kept fun k hk => kE k hk⟩
              clear hE kE hpE S12
              go_wp2
              go_roundw
              case rel => exact ⟨0 + 1, aD, cD, by omega, by go_num, rfl, S13.out.2, RE, S13.out.1⟩
              case measure => simp only [intOf]; omega
            · have hi1 : (0 : Int) < (i : Int) := by omega
              go_wp2_with fail
              refine (F.prev S7.out.1.it).mono ?_
              rintro _ w9 ⟨rfl, hp9⟩
              obtain ⟨R9, h9, k9, _⟩ := S7.out.1.step hp9
              rw [prev_norm HIL.out (by omega)] at h9
              have S9 : Hid (MgS D w2 w2.heap.size w9 R9 p L (normO (allL L) (i - 1)) (fun k => blkOf a6 = some k ∨ k = eb) ∧ Box w9 eb TKV #[.string e.1.user, .int .u64 (e.1.seq : Int), .int .i64 e.1.kind, .string e.2] ∧ OwnK w9 w2.heap.size a6 i c6 ((allL L).take i)) := ⟨h9, S7.out.2.1.kept (k9 _ (.inr rfl)), S7.out.2.2.kept fun k hk => k9 k (.inl hk)⟩
              clear h9 k9 hp9 S7
              go_wp2_with fail
              refine (F.next S9.out.1.it).mono ?_
              rintro _ wA ⟨rfl, hpA⟩
              obtain ⟨RA, hA, kA, _⟩ := S9.out.1.step hpA
              rw [next_norm (by have := HIL.out; omega), show i - 1 + 1 = i by omega] at hA
              have S10 : Hid (MgS D w2 w2.heap.size wA RA p L (normO (allL L) i) (fun k => blkOf a6 = some k ∨ k = eb) ∧ Box wA eb TKV #[.string e.1.user, .int .u64 (e.1.seq : Int), .int .i64 e.1.kind, .string e.2] ∧ OwnK wA w2.heap.size a6 i c6 ((allL L).take i)) := ⟨hA, S9.out.2.1.kept (kA _ (.inr rfl)), S9.out.2.2.kept fun k hk => kA k (.inl hk)⟩
              clear hA kA hpA S9
              go_wp2_with fail
              refine (HA.out _ _ S10.out.1.it).mono ?_
              rintro _ wB ⟨rfl, hpB⟩
              obtain ⟨RB, hB, kB, _⟩ := S10.out.1.step hpB
              have S11 : Hid (MgS D w2 w2.heap.size (wB.alloc (.cells #[.string e.1.user, .int .u64 (e.1.seq : Int), .int .i64 e.1.kind, .string e.2] TKV)) RB p L (normO (allL L) i) (fun k => blkOf a6 = some k) ∧ Box (wB.alloc (.cells #[.string e.1.user, .int .u64 (e.1.seq : Int), .int .i64 e.1.kind, .string e.2] TKV)) eb TKV #[.string e.1.user, .int .u64 (e.1.seq : Int), .int .i64 e.1.kind, .string e.2] ∧ OwnK (wB.alloc (.cells #[.string e.1.user, .int .u64 (e.1.seq : Int), .int .i64 e.1.kind, .string e.2] TKV)) w2.heap.size a6 i c6 ((allL L).take i) ∧ Box (wB.alloc (.cells #[.string e.1.user, .int .u64 (e.1.seq : Int), .int .i64 e.1.kind, .string e.2] TKV)) wB.heap.size TKV #[.string e.1.user, .int .u64 (e.1.seq : Int), .int .i64 e.1.kind, .string e.2]) := ⟨(hB.alloc F _).less fun k hk => .inl (.inl hk), (S10.out.2.1.kept (kB _ (.inr rfl))).alloc _, (S10.out.2.2.kept fun k hk => kB k (.inl hk)).alloc _, Box.new _ _ _⟩
              clear hB kB hpB S10
              go_upto_region 26 with fail
              generalize wB.alloc (.cells #[.string e.1.user, .int .u64 (e.1.seq : Int), .int .i64 e.1.kind, .string e.2] TKV) = wC at S11 ⊢
              generalize wB.heap.size = ec at S11 ⊢
              have c0 := S11.out.2.1.cell 0
              have c1 := S11.out.2.1.cell 1
              have c2 := S11.out.2.1.cell 2
              have c3 := S11.out.2.1.cell 3
              have d0 := S11.out.2.2.2.cell 0
              have d1 := S11.out.2.2.2.cell 1
              have d2 := S11.out.2.2.2.cell 2
              have d3 := S11.out.2.2.2.cell 3
              go_wp2_with (first
                | (at_builtin; refine wpList_pushL wC rfl (.tmp 81) (.tmp 83) rfl w2.heap.size a6 i c6 ((allL L).take i) rfl S11.out.2.2.1 e #[.string e.1.user, .int .u64 (e.1.seq : Int), .int .i64 e.1.kind, .string e.2] rfl wC.heap.size rfl rfl (by omega) S11.out.1.top ?_
                   intro aD cD wD hoD hgD hlD
                   obtain ⟨hmD, _⟩ := S11.out.1.push F (fun k hk => hk) S11.out.2.2.1 hoD hgD hlD
                   have S12 : Hid (MgS D w2 w2.heap.size wD RB p L (normO (allL L) i) (fun k => blkOf aD = some k) ∧ OwnK wD w2.heap.size aD (i + 1) cD ((allL L).take (i + 1))) := ⟨hmD.less fun k hk => .inr hk, by rw [HTK.out]; exact hoD⟩
                   clear hmD hoD hgD hlD c0 c1 c2 c3 d0 d1 d2 d3 S11))
              refine (F.next S12.out.1.it).mono ?_
              rintro _ wE ⟨rfl, hpE⟩
              obtain ⟨RE, hE, kE, _⟩ := S12.out.1.step hpE
              rw [next_norm HIL.out] at hE
              have S13 : Hid (MgS D w2 w2.heap.size wE RE p L (normO (allL L) (i + 1)) (fun k => blkOf aD = some k) ∧ OwnK wE w2.heap.size aD (i + 1) cD ((allL L).take (i + 1))) := ⟨hE, S12.out.2.kept fun k hk => kE k hk⟩
              clear hE kE hpE S12
              go_wp2
              go_roundw
              case rel => exact ⟨i + 1, aD, cD, by omega, by go_num, rfl, S13.out.2, RE, S13.out.1⟩
              case measure => simp only [intOf]; omega
          · obtain rfl : i = N := by omega
            have HNL : Hid (¬ i < (allL L).length) := by have := HN.out; unfold Hid; omega
            have HA : Hid (∀ (W : World) (R : Nat → Prop) (o : Option Nat), told16 (allL L) o = (kvZ, false) → D W R p L o → Calls Try.prog 13 #[at_ p] W fun e w' => e = .returned (.tuple #[.agg #[.string ⟨#[]⟩, .int .u64 0, .int .i64 0, .string ⟨#[]⟩], .bool false]) ∧ MgPost D R p L o W w') := fun W R o ho hd => by
              have := F.at' hd
              rw [ho] at this
              exact this
            have HTZ : Hid ((allL L).take i = allL L) := List.take_of_length_le (by have := HNL.out; omega)
            go_wp2_with fail
            refine (HA.out _ _ _ (told_none HNL.out) S6.out.it).mono ?_
            rintro _ w7 ⟨rfl, hp7⟩
            obtain ⟨R7, h7, k7, _⟩ := S6.out.step hp7
            have S7 : Hid (MgS D w2 w2.heap.size (w7.alloc (.cells #[.string ⟨#[]⟩, .int .u64 0, .int .i64 0, .string ⟨#[]⟩] TKV)) R7 p L (normO (allL L) i) (fun k => blkOf a6 = some k) ∧ OwnK (w7.alloc (.cells #[.string ⟨#[]⟩, .int .u64 0, .int .i64 0, .string ⟨#[]⟩] TKV)) w2.heap.size a6 i c6 (allL L)) := ⟨(h7.alloc F _).less fun k hk => .inl hk, by rw [← HTZ.out]; exact (O6.out.kept k7).alloc _⟩
            clear h7 hp7 k7 S6 O6
            go_upto_region 30 with fail
            generalize w7.alloc (.cells #[.string ⟨#[]⟩, .int .u64 0, .int .i64 0, .string ⟨#[]⟩] TKV) = w8 at S7 ⊢
            go_wp2_with fail
            refine (HA.out _ _ _ (told_none HNL.out) S7.out.1.it).mono ?_
            rintro _ w9 ⟨rfl, hp9⟩
            obtain ⟨R9, h9, k9, _⟩ := S7.out.1.step hp9
            have S9 : Hid (MgS D w2 w2.heap.size (w9.alloc (.cells #[.string ⟨#[]⟩, .int .u64 0, .int .i64 0, .string ⟨#[]⟩] TKV)) R9 p L (normO (allL L) i) (fun k => blkOf a6 = some k) ∧ OwnK (w9.alloc (.cells #[.string ⟨#[]⟩, .int .u64 0, .int .i64 0, .string ⟨#[]⟩] TKV)) w2.heap.size a6 i c6 (allL L)) := ⟨(h9.alloc F _).less fun k hk => .inl hk, (S7.out.2.kept k9).alloc _⟩
            clear h9 hp9 k9 S7
            have hbb : ((i : Int) != (i : Int)) = false := by simp
            go_upto_region 33 with fail
            generalize w9.alloc (.cells #[.string ⟨#[]⟩, .int .u64 0, .int .i64 0, .string ⟨#[]⟩] TKV) = wA at S9 ⊢
            go_wp2_with fail
            go_loopw [16] (fun s16 wr => ∃ (j : Nat), j ≤ i ∧ s16 = .int .i64 (j : Int) ∧ Hid (∃ R o, MgS D w2 w2.heap.size wr R p L o (fun k => blkOf a6 = some k) ∧ OwnK wr w2.heap.size a6 i c6 (allL L))) (fun s16 _ => i - (intOf s16).toNat)
            case atStart => exact ⟨0, Nat.zero_le _, rfl, R9, _, S9.out⟩
            case round =>
              clear S9
              obtain ⟨j, hji, rfl, HI⟩ := hrel
              obtain ⟨RB, oB, hB⟩ := HI.out
              have SB : Hid (MgS D w2 w2.heap.size wr RB p L oB (fun k => blkOf a6 = some k) ∧ OwnK wr w2.heap.size a6 i c6 (allL L)) := hB
              clear HI hB
              have hw1 : IntKind.i64.wrap ((j : Int) + 1) = (j : Int) + 1 := by rw [IntKind.wrap_i64]; omega
              by_cases hj : j + 1 < i
              · have hjI : ((j : Int) + 1) < (i : Int) := by omega
                have HL1 : Hid (j + 1 < (allL L).length) := by have := HN.out; unfold Hid; omega
                obtain ⟨b, off, hix, hb, hcs⟩ := SB.out.2.ks.spots (by omega)
                have hx0 := hix j (by omega)
                have hx1 := hix (j + 1) hj
                rw [show ((j + 1 : Nat) : Int) = (j : Int) + 1 by omega] at hx1
                clear hix
                have HAA : Hid (∀ W, Below wr.heap.size wr W → W.cell? ⟨b, off + j * 4, none⟩ = some (.string ((allL L)[j]'(by have := HL1.out; omega)).1.user) ∧ W.cell? ⟨b, off + j * 4 + 1, none⟩ = some (.int .u64 (((allL L)[j]'(by have := HL1.out; omega)).1.seq : Int)) ∧ W.cell? ⟨b, off + j * 4 + 2, none⟩ = some (.int .i64 ((allL L)[j]'(by have := HL1.out; omega)).1.kind) ∧ W.cell? ⟨b, off + (j + 1) * 4, none⟩ = some (.string ((allL L)[j + 1]'HL1.out).1.user) ∧ W.cell? ⟨b, off + (j + 1) * 4 + 1, none⟩ = some (.int .u64 (((allL L)[j + 1]'HL1.out).1.seq : Int)) ∧ W.cell? ⟨b, off + (j + 1) * 4 + 2, none⟩ = some (.int .i64 ((allL L)[j + 1]'HL1.out).1.kind)) := fun W hW => by
                  obtain ⟨z0, z1, z2, _⟩ := hcs W hW j (by have := HL1.out; omega)
                  obtain ⟨y0, y1, y2, _⟩ := hcs W hW (j + 1) HL1.out
                  exact ⟨z0, z1, z2, y0, y1, y2⟩
                have HCP : Hid (∀ W : World, Calls Try.prog 20 #[.agg #[.string ((allL L)[j]'(by have := HL1.out; omega)).1.user, .int .u64 (((allL L)[j]'(by have := HL1.out; omega)).1.seq : Int), .int .i64 ((allL L)[j]'(by have := HL1.out; omega)).1.kind], .agg #[.string ((allL L)[j + 1]'HL1.out).1.user, .int .u64 (((allL L)[j + 1]'HL1.out).1.seq : Int), .int .i64 ((allL L)[j + 1]'HL1.out).1.kind]] W fun r w' => r = .returned (.int .i64 (((allL L)[j]'(by have := HL1.out; omega)).1.cmp ((allL L)[j + 1]'HL1.out).1)) ∧ Below W.heap.size W w') := fun W => rcompare_any _ _ _ _ _ _ W
                have HCV : ((allL L)[j]'(by have := HL1.out; omega)).1.cmp ((allL L)[j + 1]'HL1.out).1 ≤ 0 := all_cmp HR.out HL1.out
                clear hcs
                generalize ((allL L)[j]'(by have := HL1.out; omega)).1 = eA at HAA HCP HCV
                generalize ((allL L)[j + 1]'HL1.out).1 = eB at HAA HCP HCV
                generalize eA.cmp eB = cv at HCP HCV
                generalize off + j * 4 = oA at HAA hx0
                generalize off + (j + 1) * 4 = oC at HAA hx1
                have HB0 : Hid (Below wr.heap.size wr wr) := Below.refl _ _
                go_wp2_with fail
                have HB1 : Hid (Below wr.heap.size wr wr.drew) := HB0.out.drew
                obtain ⟨x0, x1, x2, y0, y1, y2⟩ := HAA.out _ HB1.out
                go_region_held3 (fun V => V.cell? ⟨b, oA, none⟩ = some (.string eA.user) ∧ V.cell? ⟨b, oA + 1, none⟩ = some (.int .u64 (eA.seq : Int)) ∧ V.cell? ⟨b, oA + 2, none⟩ = some (.int .i64 eA.kind) ∧ V.cell? ⟨b, oC, none⟩ = some (.string eB.user) ∧ V.cell? ⟨b, oC + 1, none⟩ = some (.int .u64 (eB.seq : Int)) ∧ V.cell? ⟨b, oC + 2, none⟩ = some (.int .i64 eB.kind)) (first | exact ⟨x0, x1, x2, y0, y1, y2⟩ | go_keep)
                  (first
                   | (go_at_call 20; refine (HCP.out _).mono ?_; rintro _ vx ⟨rfl, hbx⟩
                      have HB1 : Hid (Below wr.heap.size wr vx) := HB1.out.trans (hbx.mono HB1.out.size)
                      obtain ⟨x0, x1, x2, y0, y1, y2⟩ := HAA.out _ HB1.out
                      clear hbx))
                have hcv : ¬ 0 < cv := by omega
                go_wp2
                go_roundw
                case rel => exact ⟨j + 1, by omega, by go_num, RB, oB, SB.out.1.below F HB1.out, SB.out.2.below HB1.out⟩
                case measure => simp only [intOf]; omega
              · have hjI : ¬ ((j : Int) + 1) < (i : Int) := by omega
                have hw2 : IntKind.i64.wrap ((i : Int) - 1) = (i : Int) - 1 := by rw [IntKind.wrap_i64]; omega
                go_wp2_with fail
                refine (F.last SB.out.1.it).mono ?_
                rintro _ wC ⟨rfl, hpC⟩
                obtain ⟨RC, hC, kC, _⟩ := SB.out.1.step hpC
                rw [last_back, ← HN.out] at hC
                have SC : Hid (MgS D w2 w2.heap.size wC RC p L (backO i) (fun k => blkOf a6 = some k) ∧ OwnK wC w2.heap.size a6 i c6 (allL L)) := ⟨hC, SB.out.2.kept kC⟩
                clear hC kC hpC SB
                go_wp2_with fail
                go_loopw [17] (fun s17 wr => ∃ (q : Nat) (z : Int), q ≤ i ∧ z = (q : Int) - 1 ∧ s17 = .int .i64 z ∧ Hid (∃ R, MgS D w2 w2.heap.size wr R p L (backO q) (fun k => blkOf a6 = some k) ∧ OwnK wr w2.heap.size a6 i c6 (allL L))) (fun s17 _ => (intOf s17 + 1).toNat)
                case atStart => exact ⟨i, (i : Int) - 1, Nat.le_refl _, rfl, rfl, RC, SC.out⟩
                case round =>
                  clear SC
                  obtain ⟨q, z, hqi, hz, rfl, HI⟩ := hrel
                  obtain ⟨RD, hD⟩ := HI.out
                  cases q with
                  | zero =>
                    have SD : Hid (MgS D w2 w2.heap.size wr RD p L (backO 0) (fun k => blkOf a6 = some k)) := hD.1
                    clear hD HI
                    obtain rfl : z = -1 := by omega
                    clear hz
                    go_wp2_with fail
                    refine (HA.out _ _ _ (by rfl) SD.out.it).mono ?_
                    rintro _ wE ⟨rfl, hpE⟩
                    obtain ⟨RE, hE, _, _⟩ := SD.out.step hpE
                    have HX : Hid (Below w.heap.size w wE) := H2.out.1.trans (hE.low.mono H2.out.1.size)
                    clear hE hpE SD
                    go_wp2
                    go_ret
                    exact ⟨ret1 rfl, HX.out⟩
                  | succ q =>
                    have SD : Hid (MgS D w2 w2.heap.size wr RD p L (backO (q + 1)) (fun k => blkOf a6 = some k) ∧ OwnK wr w2.heap.size a6 i c6 (allL L)) := hD
                    clear hD HI
                    obtain rfl : z = (q : Int) := by omega
                    clear hz
                    have hq0 : (0 : Int) ≤ (q : Int) := by omega
                    have hw3 : IntKind.i64.wrap ((q : Int) - 1) = (q : Int) - 1 := by rw [IntKind.wrap_i64]; omega
                    have HQL : Hid (q < (allL L).length) := by have := HN.out; unfold Hid; omega
                    have hA2 : Calls Try.prog 13 #[at_ p] wr fun e w' => e = .returned (.tuple #[.agg #[.string ((allL L)[q]'HQL.out).1.user, .int .u64 (((allL L)[q]'HQL.out).1.seq : Int), .int .i64 ((allL L)[q]'HQL.out).1.kind, .string ((allL L)[q]'HQL.out).2], .bool true]) ∧ MgPost D RD p L (backO (q + 1)) wr w' := by
                      have := F.at' SD.out.1.it
                      rw [told_back HQL.out] at this
                      exact this
                    obtain ⟨b, off, hix, hb, hcs⟩ := SD.out.2.ks.spots (by omega)
                    have hx0 := hix q (by omega)
                    clear hix hb hcs
                    have HOC : Hid (∀ W, OwnK W w2.heap.size a6 i c6 (allL L) → ∃ b off, (∀ V : World, (Instr.indexAt 26 (.slice a6 i c6) (.int .i64 (q : Int))).run Try.prog V = .ok (.pointer (some ⟨b, off, none⟩)) V) ∧ W.cell? ⟨b, off, none⟩ = some (.string ((allL L)[q]'HQL.out).1.user) ∧ W.cell? ⟨b, off + 1, none⟩ = some (.int .u64 (((allL L)[q]'HQL.out).1.seq : Int)) ∧ W.cell? ⟨b, off + 2, none⟩ = some (.int .i64 ((allL L)[q]'HQL.out).1.kind) ∧ W.cell? ⟨b, off + 3, none⟩ = some (.string ((allL L)[q]'HQL.out).2)) := fun W hW => by
                      obtain ⟨b, off, hix, hb, hcs⟩ := hW.ks.spots (by omega)
                      exact ⟨b, off + q * 4, hix q (by omega), hcs W (Below.refl _ _) q HQL.out⟩
                    have heq := run_neq_kv16 ((allL L)[q]'HQL.out) ((allL L)[q]'HQL.out)
                    rw [show eqKV ((allL L)[q]'HQL.out) ((allL L)[q]'HQL.out) = true from eqKV_iff.2 rfl] at heq
                    unfold kvV kvc at heq
                    rw [show (!true) = false from rfl] at heq
                    generalize ((allL L)[q]'HQL.out) = e at hA2 heq HOC
                    go_wp2_with fail
                    refine hA2.mono ?_
                    rintro _ wE ⟨rfl, hpE⟩
                    obtain ⟨RE, hE, kE, _⟩ := SD.out.1.step hpE
                    have SE : Hid (MgS D w2 w2.heap.size (wE.alloc (.cells #[.string e.1.user, .int .u64 (e.1.seq : Int), .int .i64 e.1.kind, .string e.2] TKV)) RE p L (backO (q + 1)) (fun k => blkOf a6 = some k) ∧ OwnK (wE.alloc (.cells #[.string e.1.user, .int .u64 (e.1.seq : Int), .int .i64 e.1.kind, .string e.2] TKV)) w2.heap.size a6 i c6 (allL L) ∧ Box (wE.alloc (.cells #[.string e.1.user, .int .u64 (e.1.seq : Int), .int .i64 e.1.kind, .string e.2] TKV)) wE.heap.size TKV #[.string e.1.user, .int .u64 (e.1.seq : Int), .int .i64 e.1.kind, .string e.2]) := ⟨(hE.alloc F _).less fun k hk => .inl hk, (SD.out.2.kept kE).alloc _, Box.new _ _ _⟩
                    clear hE kE hpE SD hA2 hx0
                    go_upto_region 43 with fail
                    generalize wE.alloc (.cells #[.string e.1.user, .int .u64 (e.1.seq : Int), .int .i64 e.1.kind, .string e.2] TKV) = wF at SE ⊢
                    generalize wE.heap.size = ee at SE ⊢
                    have hgd : (!true) = false := rfl
                    have HZ : Hid (∃ b off, (∀ W : World, (Instr.indexAt 26 (.slice a6 i c6) (.int .i64 (q : Int))).run Try.prog W = .ok (.pointer (some ⟨b, off, none⟩)) W) ∧ wF.cell? ⟨b, off, none⟩ = some (.string e.1.user) ∧ wF.cell? ⟨b, off + 1, none⟩ = some (.int .u64 (e.1.seq : Int)) ∧ wF.cell? ⟨b, off + 2, none⟩ = some (.int .i64 e.1.kind) ∧ wF.cell? ⟨b, off + 3, none⟩ = some (.string e.2)) := HOC.out _ SE.out.2.1
                    have c0 := SE.out.2.2.cell 0
                    have c1 := SE.out.2.2.cell 1
                    have c2 := SE.out.2.2.cell 2
                    have c3 := SE.out.2.2.cell 3
                    obtain ⟨b2, o2, hx2, d0, d1, d2, d3⟩ := HZ.out
                    clear HOC HZ
                    go_wp2_with fail
                    go_quiet (fail)
                    go_wp2_with fail
                    have SF : Hid (MgS D w2 w2.heap.size (wF.drewN nq) RE p L (backO (q + 1)) (fun k => blkOf a6 = some k) ∧ OwnK (wF.drewN nq) w2.heap.size a6 i c6 (allL L)) := ⟨SE.out.1.drewN F nq, SE.out.2.1.below (Below.drewM (Below.refl _ _) _)⟩
                    generalize wF.drewN nq = wG at SF ⊢
                    clear SE c0 c1 c2 c3 d0 d1 d2 d3 hx2 heq
                    refine (F.prev SF.out.1.it).mono ?_
                    rintro _ wH ⟨rfl, hpH⟩
                    obtain ⟨RH, hH, kH, _⟩ := SF.out.1.step hpH
                    rw [prev_back] at hH
                    have SH : Hid (MgS D w2 w2.heap.size wH RH p L (backO q) (fun k => blkOf a6 = some k) ∧ OwnK wH w2.heap.size a6 i c6 (allL L)) := ⟨hH, SF.out.2.kept kH⟩
                    clear hH kH hpH SF
                    go_wp2
                    go_roundw
                    case rel => exact ⟨q, (q : Int) - 1, by omega, rfl, rfl, RH, SH.out⟩
                    case measure => simp only [intOf]; omega
  · go_wp2
    go_ret
    exact ⟨rfl, H2.out.1.trans (hb3.mono H2.out.1.size)⟩
end Go.Proofs.Ytfijibengmgegaa
