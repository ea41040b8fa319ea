/- The walk of ViewFalls, by what is asked of view's own. -/
import Derived.Test.YtjoamhcehpjepabQa06
import Derived.Test.YtjoamhcehpjepabQa07
import Derived.Test.YtjoamhcehpjepabQa04
namespace Go.Proofs.Ytjoamhcehpjepab
open Go.RowKit
set_option linter.unusedVariables false
set_option linter.unusedSimpArgs false
theorem filter_succ17 {α : Type} (P : α → Bool) {l : List α} {i : Nat} (h : i < l.length) : (l.take (i + 1)).filter P = (l.take i).filter P ++ if P l[i] then [l[i]] else [] := by
  rw [List.take_succ_eq_append_getElem h, List.filter_append]
  congr 1
  cases e : P l[i] <;> simp [e]
set_option maxRecDepth 100000 in
set_option maxHeartbeats 3000000 in
theorem viewFalls_of {D : VwRel} (F : VwOk D) (a : Option Addr) (n c : Nat) (L0 : List (List KV)) (s : Nat) (u v : ByteArray) (w : World) (h : LsAt w a n c L0) (hwf : WfLs L0) (hu : u.size ≤ 140737488351232) (hs : s < 18446744073709551616) :
    Calls Try.prog 3 #[.slice a n c, .int .u64 (s : Int), .string u, .string v] w fun e w' => e = .returned (.bool true) ∧ Below w.heap.size w w' := by
  have HWF : Hid (WfLs L0) := hwf
  have HUS : Hid (u.size ≤ 140737488351232) := hu
  clear hu
  clear hwf
  have H0 : Hid (LsAt w a n c L0) := h
  clear h
  go_enter Try.func3, Try.ntmps3
  go_wp2_with fail
  refine (awake17 F w).mono ?_
  rintro _ w1 ⟨rfl, hb1⟩
  have H1 : Hid (Below w.heap.size w w1) := hb1
  clear hb1
  go_wp2_with fail
  refine (few_any a n c L0 w1 (H0.out.below H1.out)).mono ?_
  rintro _ w2 ⟨a2, c2, rfl, hl2, hb2⟩
  have HF : Hid (FewV (fewL L0)) := fewL_ok HWF.out
  have HA8 : Hid ((allL (fewL L0)).length ≤ 8000) := fewL_all L0
  have HE2L : Hid (∀ i, lenL (fewL L0) i ≤ 200) := fewL_each L0
  have HL40 : (fewL L0).length ≤ 40 := fewL_len L0
  generalize fewL L0 = L at hl2 HF HA8 HE2L HL40 ⊢
  have H2 : Hid (Below w.heap.size w w2 ∧ LsAt w2 a2 L.length c2 L) := ⟨H1.out.trans (hb2.mono H1.out.size), hl2⟩
  clear hl2 hb2 H0 H1
  go_wp2_with fail
  refine (F.new a2 L.length c2 L s w2 H2.out.2 HF.out hs).mono ?_
  rintro _ w3 ⟨hb3, hcase⟩
  rcases hcase with ⟨hr, p, R3, rfl, hd3, hR3⟩ | ⟨_, rfl⟩
  case inr =>
    have HB : Hid (Below w.heap.size w w3) := H2.out.1.trans (hb3.mono H2.out.1.size)
    clear hb3
    go_wp2
    go_ret
    exact ⟨ret1 rfl, HB.out⟩
  have HR : Hid (RiseL L) := hr
  have H3 : Hid (Below w.heap.size w w3 ∧ LsAt w3 a2 L.length c2 L) := ⟨H2.out.1.trans (hb3.mono H2.out.1.size), H2.out.2.below hb3⟩
  clear hd3 hb3 hR3 hr H2
  by_cases hbig : 1152921504606846976 < s
  · have hbI : (1152921504606846976 : Int) < (s : Int) := by omega
    go_wp2
    go_ret
    exact ⟨ret1 rfl, H3.out.1⟩
  have hbI : ¬ (1152921504606846976 : Int) < (s : Int) := by omega
  have hS64 : s + 1 < 18446744073709551616 := by omega
  go_wp2_with fail
  go_loopw [12, 13] (fun s12 s13 wr => ∃ (i : Nat), i ≤ L.length ∧ s13 = .int .i64 (i : Int) ∧ s12 = .int .i64 (((1 + sumV (lenL L) i : Nat) : Nat) : Int) ∧ wr = w3) (fun _ s13 _ => L.length - (intOf s13).toNat)
  case atStart => exact ⟨0, Nat.zero_le _, rfl, rfl, rfl⟩
  case round =>
    obtain ⟨i, hil, rfl, rfl, hwe⟩ := hrel
    rw [hwe]
    clear hwe
    have hsm : sumV (lenL L) i ≤ 8000 := by
      have h1 := sum_mono (lenL L) hil
      have h2 := HA8.out
      rw [all_sum] at h1
      omega
    by_cases hi : i < L.length
    · have hiI : (i : Int) < (L.length : Int) := by omega
      obtain ⟨bL, oL, aL, cL, hxL, hcL0, _⟩ := H3.out.2.lens hi
      have hcl := hcL0 _ (Below.refl _ _)
      have hll := HE2L.out i
      have HSS : Hid (((1 + sumV (lenL L) (i + 1) : Nat) : Int) = ((1 + sumV (lenL L) i : Nat) : Int) + (lenL L i : Int)) := by unfold Hid; rw [sum_step]; omega
      clear hcL0
      generalize lenL L i = ll at *
      generalize hq : 1 + sumV (lenL L) i = qs at HSS ⊢
      have hqs : qs ≤ 8001 := by omega
      go_wp2
      go_roundw
      case rel => exact ⟨i + 1, by omega, by go_num, by rw [HSS.out], by first | rfl | trivial⟩
      case measure => simp only [intOf]; omega
    · obtain rfl : i = L.length := by omega
      have hall := all_sum L
      rw [hall]
      have HN8 : Hid ((allL L).length ≤ 8000) := HA8.out
      obtain ⟨mo, hmo⟩ : ∃ mo, mo = 1 + (allL L).length := ⟨_, rfl⟩
      have HMO : Hid (mo = 1 + (allL L).length) := hmo
      have hmx : mo ≤ 8001 := by have := HN8.out; omega
      rw [← hmo]
      clear hall hsm hmo
      have HRE : Hid (∀ E : KV, RiseL ([E] :: L)) := fun E => riseL_cons (List.pairwise_singleton _ E : RiseK [E]) HR.out
      have HFE : Hid (∀ E : KV, WfE E → FewV ([E] :: L) ∧ (allL ([E] :: L)).length = 1 + (allL L).length) := fun E hwE => by
        have e : (allL ([E] :: L)).length = 1 + (allL L).length := by
          rw [(perm_flat ([E] :: L)).length_eq, (perm_flat L).length_eq]
          simp; try omega
        exact ⟨⟨by simp; omega, by rw [e]; have := HN8.out; omega, fun q hq => by
          rcases List.mem_cons.1 hq with rfl | hq
          · intro x hx; rw [List.mem_singleton.1 hx]; exact hwE
          · exact HF.out.2.2 q hq⟩, e⟩
      have HW01 : Hid (WfE (⟨u, s + 1, 0⟩, ⟨#[]⟩) ∧ WfE (⟨u, s + 1, 1⟩, v)) := ⟨⟨HUS.out, hS64, (by decide : (0 : Int) ≤ 9223372036854775807)⟩, ⟨HUS.out, hS64, (by decide : (1 : Int) ≤ 9223372036854775807)⟩⟩
      have HCA : Hid (((s + 1 : Nat) : Int) = (s : Int) + 1) := by unfold Hid; omega
      have HLS : Hid (∀ W, Below w3.heap.size w3 W → LsAt W a2 L.length c2 L) := fun W hW => H3.out.2.below hW
      obtain ⟨E0, hE0⟩ : ∃ E0 : KV, E0 = (⟨u, s + 1, 0⟩, ⟨#[]⟩) := ⟨_, rfl⟩
      obtain ⟨E1, hE1⟩ : ∃ E1 : KV, E1 = (⟨u, s + 1, 1⟩, v) := ⟨_, rfl⟩
      obtain ⟨Vy, eVy⟩ : ∃ V, V = w3.alloc (.cells #[.string u, .int .u64 ((s : Int) + 1), .int .i64 0, .string ⟨#[]⟩] TKV) := ⟨_, rfl⟩
      have HVy : Hid (Below w3.heap.size w3 Vy ∧ Vy.heap.size = w3.heap.size + 1 ∧ SlR Vy (.slice (some ⟨w3.heap.size, 0, none⟩) 1 1) [E0]) := by
        rw [eVy]
        refine ⟨(Below.refl _ _).alloc (Nat.le_refl _) _, by simp, ?_⟩
        rw [hE0]
        exact ks_lit17 (s := s + 1) (Box.new _ _ _)
      go_wp2_with (first
        | (at_builtin; rw [← eVy]; refine wpList_consL Vy rfl _ _ rfl (.slice (some ⟨w3.heap.size, 0, none⟩) 1 1) [E0] HVy.out.2.2 (w3.heap.size + 1) HVy.out.2.1.symm rfl a2 L.length c2 L (HLS.out Vy HVy.out.1) rfl (by omega) ?_
           intro ay cy wy0 hly hby0
           have Hy0 : Hid (LsAt wy0 ay (1 + L.length) cy ([E0] :: L) ∧ Below w3.heap.size w3 wy0) := ⟨hly, HVy.out.1.trans (hby0.mono HVy.out.1.size)⟩
           clear hly hby0)
        | fail)
      have hnewy := F.new ay (1 + L.length) cy ([E0] :: L) (s + 1) wy0 Hy0.out.1 (HFE.out E0 (hE0 ▸ HW01.out.1)).1 hS64
      rw [HCA.out] at hnewy
      go_wp2_with fail
      refine hnewy.mono ?_
      rintro _ wy ⟨hby, hcasey⟩
      clear hnewy eVy
      rcases hcasey with ⟨_, py, Ry, rfl, hdy, hRy⟩ | ⟨hno, _⟩
      case inr => exact absurd (HRE.out E0) hno
      have Hy : Hid (Below w3.heap.size w3 wy ∧ D wy Ry py (seenL (s + 1) (allL ([E0] :: L))) none ∧ ∀ k, Ry k → w3.heap.size ≤ k) := ⟨Hy0.out.2.trans (hby.mono Hy0.out.2.size), hdy, fun k hk => Nat.le_trans Hy0.out.2.size (hRy k hk)⟩
      clear hby hdy hRy Hy0 HVy
      have Hzy : Hid (Below w3.heap.size w3 wy) := Hy.out.1
      obtain ⟨Vz, eVz⟩ : ∃ V, V = wy.alloc (.cells #[.string u, .int .u64 ((s : Int) + 1), .int .i64 1, .string v] TKV) := ⟨_, rfl⟩
      have HVz : Hid (Below wy.heap.size wy Vz ∧ Vz.heap.size = wy.heap.size + 1 ∧ SlR Vz (.slice (some ⟨wy.heap.size, 0, none⟩) 1 1) [E1]) := by
        rw [eVz]
        refine ⟨(Below.refl _ _).alloc (Nat.le_refl _) _, by simp, ?_⟩
        rw [hE1]
        exact ks_lit17 (s := s + 1) (Box.new _ _ _)
      go_wp2_with (first
        | (at_builtin; rw [← eVz]; refine wpList_consL Vz rfl _ _ rfl (.slice (some ⟨wy.heap.size, 0, none⟩) 1 1) [E1] HVz.out.2.2 (wy.heap.size + 1) HVz.out.2.1.symm rfl a2 L.length c2 L (HLS.out Vz (Hzy.out.trans (HVz.out.1.mono Hzy.out.size))) rfl (by omega) ?_
           intro az cz wz0 hlz hbz0
           have Hz0 : Hid (LsAt wz0 az (1 + L.length) cz ([E1] :: L) ∧ Below wy.heap.size wy wz0) := ⟨hlz, HVz.out.1.trans (hbz0.mono HVz.out.1.size)⟩
           clear hlz hbz0)
        | fail)
      have hnewz := F.new az (1 + L.length) cz ([E1] :: L) (s + 1) wz0 Hz0.out.1 (HFE.out E1 (hE1 ▸ HW01.out.2)).1 hS64
      rw [HCA.out] at hnewz
      go_wp2_with fail
      refine hnewz.mono ?_
      rintro _ wz ⟨hbz, hcasez⟩
      clear hnewz eVz
      rcases hcasez with ⟨_, pz, Rz, rfl, hdz, hRz⟩ | ⟨hno, _⟩
      case inr => exact absurd (HRE.out E1) hno
      have Hz : Hid (Below wy.heap.size wy wz ∧ D wz Rz pz (seenL (s + 1) (allL ([E1] :: L))) none ∧ ∀ k, Rz k → wy.heap.size ≤ k) := ⟨Hz0.out.2.trans (hbz.mono Hz0.out.2.size), hdz, fun k hk => Nat.le_trans Hz0.out.2.size (hRz k hk)⟩
      clear hbz hdz hRz Hz0 HVz
      have Hzz : Hid (Below w3.heap.size w3 wz) := Hzy.out.trans (Hz.out.1.mono Hzy.out.size)
      have hneww := F.new a2 L.length c2 L (s + 1) wz (HLS.out wz Hzz.out) HF.out hS64
      rw [HCA.out] at hneww
      go_wp2_with fail
      refine hneww.mono ?_
      rintro _ ww ⟨hbw, hcasew⟩
      clear hneww
      rcases hcasew with ⟨_, pw, Rw, rfl, hdw, hRw⟩ | ⟨hno, _⟩
      case inr => exact absurd HR.out hno
      have H3V : Hid (VwS D w3 w3.heap.size ww Rw pw (seenL (s + 1) (allL L)) none (fun k => Ry k ∨ Rz k) ∧ D ww Ry py (seenL (s + 1) (allL ([E0] :: L))) none ∧ D ww Rz pz (seenL (s + 1) (allL ([E1] :: L))) none ∧ (∀ k, Rz k → w3.heap.size ≤ k ∧ ¬ Ry k) ∧ ∀ k, Ry k → w3.heap.size ≤ k) := by
        obtain ⟨g1, g2, g3, g4⟩ := three17 (Wn := w3) F Hy.out.1.size Hy.out.1 Hy.out.2.1 Hy.out.2.2 Hz.out.1 Hz.out.2.1 Hz.out.2.2 hbw hdw hRw
        exact ⟨g1, g2, g3, g4, Hy.out.2.2⟩
      have HWW : Hid (Below w3.heap.size w3 ww) := Hzz.out.trans (hbw.mono Hzz.out.size)
      clear hbw hdw hRw Hy Hz Hzy Hzz
      have HW : Hid (LsAt ww a2 L.length c2 L) := HLS.out ww HWW.out
      go_wp2_with fail
      go_loopw [20] (fun s20 wr2 => ∃ (i : Nat), i ≤ L.length ∧ s20 = .int .i64 (i : Int) ∧ wr2 = ww ∧ Hid (∀ i', i' < i → ∀ j, j < lenL L i' → (entL L (i', j)).1.seq ≠ s + 1)) (fun s20 _ => L.length - (intOf s20).toNat)
      case atStart => exact ⟨0, Nat.zero_le _, rfl, rfl, fun i' h => absurd h (Nat.not_lt_zero _)⟩
      case round =>
        obtain ⟨i, hil, rfl, hwe, HI⟩ := hrel
        rw [hwe]
        clear hwe
        by_cases hi : i < L.length
        · have hiI : (i : Int) < (L.length : Int) := by omega
          go_wp2_with fail
          go_loopw [21] (fun s21 wr3 => ∃ (j : Nat), j ≤ lenL L i ∧ s21 = .int .i64 (j : Int) ∧ wr3 = ww ∧ Hid (∀ j', j' < j → (entL L (i, j')).1.seq ≠ s + 1)) (fun s21 _ => lenL L i - (intOf s21).toNat)
          case atStart => exact ⟨0, Nat.zero_le _, rfl, rfl, fun j' h => absurd h (Nat.not_lt_zero _)⟩
          case round =>
            obtain ⟨j, hjl, rfl, hwe, HJ⟩ := hrel
            rw [hwe]
            clear hwe
            have hll := HE2L.out i
            by_cases hj : j < lenL L i
            · obtain ⟨bL, oL, aL, cL, q, r, hxL, hxK, hcs⟩ := HW.out.place hi hj
              obtain ⟨y, y0, y1, y2, y3⟩ := hcs _ (Below.refl _ _)
              have HJN : Hid ((entL L (i, j)).1.seq ≠ s + 1 → ∀ j', j' < j + 1 → (entL L (i, j')).1.seq ≠ s + 1) := fun hne j' h => by
                by_cases e : j' = j
                · subst e; exact hne
                · exact HJ.out j' (by omega)
              clear hcs
              generalize entL L (i, j) = e at y0 y1 y2 y3 HJN
              generalize lenL L i = ll at *
              have hjI : (j : Int) < (ll : Int) := by omega
              by_cases hq : e.1.seq = s + 1
              · have hqI : (e.1.seq : Int) = (s : Int) + 1 := by omega
                have HBW : Hid (Below w.heap.size w ww) := H3.out.1.trans (HWW.out.mono H3.out.1.size)
                go_wp2
                go_ret
                exact ⟨ret1 rfl, HBW.out⟩
              · have hqI : ¬ (e.1.seq : Int) = (s : Int) + 1 := by omega
                have HJY := HJN.out hq
                go_wp2
                go_roundw
                case rel => exact ⟨j + 1, by omega, by go_num, by first | rfl | trivial, HJY⟩
                case measure => simp only [intOf]; omega
            · obtain rfl : j = lenL L i := by omega
              obtain ⟨bL, oL, aL, cL, hxL, hcL0, _⟩ := HW.out.lens hi
              have hcl := hcL0 _ (Below.refl _ _)
              have HIN : Hid (∀ i', i' < i + 1 → ∀ j, j < lenL L i' → (entL L (i', j)).1.seq ≠ s + 1) := fun i' h => by
                by_cases e : i' = i
                · subst e; exact HJ.out
                · exact HI.out i' (by omega)
              clear hcL0
              generalize lenL L i = ll at *
              have hjI : ¬ (ll : Int) < (ll : Int) := by omega
              go_wp2
              go_roundw
              case rel => exact ⟨i + 1, by omega, by go_num, by first | rfl | trivial, HIN⟩
              case measure => simp only [intOf]; omega
        · obtain rfl : i = L.length := by omega
          have HNO : Hid (∀ l ∈ L, ∀ e ∈ l, e.1.seq ≠ s + 1) := fun l hl e he => by
            obtain ⟨i, hi, rfl⟩ := List.getElem_of_mem hl
            obtain ⟨j, hj, rfl⟩ := List.getElem_of_mem he
            have e1 : rowL L i = L[i] := by simp [rowL, List.getD, hi]
            have hj2 : j < (rowL L i).length := by rw [e1]; exact hj
            have e2 : (L[i])[j] = entL L (i, j) := by
              rw [← rowL_at hj2]
              congr 1
              exact e1.symm
            rw [e2]
            exact HI.out i hi j hj2
          clear HI hi
          have HIM : Hid (seenL (s + 1) (allL ([E0] :: L)) = (seenL (s + 1) (allL L)).filter fun x => decide (x.1 ≠ u)) := by
            have := fall_less (E := E0) HR.out (by rw [hE0]; exact HNO.out) (by rw [hE0])
            rw [hE0] at this ⊢
            exact this
          have HIN : Hid ((seenL (s + 1) (allL ([E1] :: L))).filter (fun x => decide (x.1 ≠ u)) = (seenL (s + 1) (allL L)).filter (fun x => decide (x.1 ≠ u)) ∧ (seenL (s + 1) (allL ([E1] :: L))).filter (fun x => decide (x.1 = u)) = [(u, v)]) := by
            have := fall_more (E := E1) HR.out (by rw [hE1]; exact HNO.out) (by rw [hE1])
            rw [hE1] at this ⊢
            exact this
          have HRI : Hid ((seenL (s + 1) (allL L)).Pairwise (fun a b => uc a.1 b.1 < 0) ∧ (seenL (s + 1) (allL ([E0] :: L))).Pairwise (fun a b => uc a.1 b.1 < 0) ∧ (seenL (s + 1) (allL ([E1] :: L))).Pairwise (fun a b => uc a.1 b.1 < 0)) := ⟨rise_seen (all_sortU HR.out), rise_seen (all_sortU (HRE.out E0)), rise_seen (all_sortU (HRE.out E1))⟩
          have HLE : Hid ((seenL (s + 1) (allL L)).length ≤ mo ∧ (seenL (s + 1) (allL ([E0] :: L))).length ≤ mo ∧ (seenL (s + 1) (allL ([E1] :: L))).length ≤ mo) := by
            have h1 := seen_le (s + 1) (allL L)
            have h2 := seen_le (s + 1) (allL ([E0] :: L))
            have h3 := seen_le (s + 1) (allL ([E1] :: L))
            rw [(HFE.out E0 (hE0 ▸ HW01.out.1)).2] at h2
            rw [(HFE.out E1 (hE1 ▸ HW01.out.2)).2] at h3
            have h4 := HMO.out
            exact ⟨by omega, by omega, by omega⟩
          clear HNO HFE HRE HW HLS hE0 hE1
          generalize seenL (s + 1) (allL L) = Il at H3V HIM HIN HRI HLE
          generalize seenL (s + 1) (allL ([E0] :: L)) = Im at H3V HIM HIN HRI HLE
          generalize seenL (s + 1) (allL ([E1] :: L)) = In at H3V HIM HIN HRI HLE
          go_wp2_with fail
          refine (all17 F H3V.out.1 HRI.out.1 mo HLE.out.1 (by omega)).mono ?_
          rintro _ wl ⟨al, cl, Rl, rfl, hal⟩
          have HA1 : Hid (OwnI wl ww.heap.size al Il.length cl Il ∧ VwS D w3 w3.heap.size wl Ry py Im none (fun k => Rz k ∨ blkOf al = some k) ∧ D wl Rz pz In none ∧ (∀ k, Rz k → w3.heap.size ≤ k) ∧ ∀ k, blkOf al = some k → ¬ Rz k) := by
            refine ⟨hal.full, next17 F hal (fun k hk => .inl hk) H3V.out.2.1 H3V.out.2.2.2.2 (fun k hk => ?_), F.kept H3V.out.2.2.1 hal.size (fun k hk => hal.low k (.inr hk)), fun k hk => (H3V.out.2.2.2.1 k hk).1, fun k hk hr => ?_⟩
            · rcases hk with hk | hk
              · exact .inl ⟨.inr hk, (H3V.out.2.2.2.1 k hk).2⟩
              · exact .inr hk
            · have h1 := (hal.full.ge hk)
              have h2 := F.lt H3V.out.2.2.1 k hr
              omega
          clear hal H3V
          go_wp2_with fail
          refine (all17 F HA1.out.2.1 HRI.out.2.1 mo HLE.out.2.1 (by omega)).mono ?_
          rintro _ wm ⟨am, cm, Rm, rfl, hal⟩
          have HA2 : Hid (OwnI wm ww.heap.size al Il.length cl Il ∧ OwnI wm wl.heap.size am Im.length cm Im ∧ VwS D w3 w3.heap.size wm Rz pz In none (fun k => blkOf al = some k ∨ blkOf am = some k)) := by
            refine ⟨HA1.out.1.kept fun k hk => hal.low k (.inr hk), hal.full, next17 F hal (fun k hk => .inl hk) HA1.out.2.2.1 HA1.out.2.2.2.1 (fun k hk => ?_)⟩
            rcases hk with hk | hk
            · exact .inl ⟨.inr hk, HA1.out.2.2.2.2 k hk⟩
            · exact .inr hk
          clear hal HA1
          go_wp2_with fail
          refine (all17 F HA2.out.2.2 HRI.out.2.2 mo HLE.out.2.2 (by omega)).mono ?_
          rintro _ wn ⟨an, cn, Rn, rfl, hal⟩
          have HA3 : Hid (OwnI wn ww.heap.size al Il.length cl Il ∧ OwnI wn wl.heap.size am Im.length cm Im ∧ OwnI wn wm.heap.size an In.length cn In ∧ Below w.heap.size w wn) := ⟨HA2.out.1.kept fun k hk => hal.low k (.inl hk), HA2.out.2.1.kept fun k hk => hal.low k (.inr hk), hal.full, H3.out.1.trans (hal.vw.low.mono H3.out.1.size)⟩
          clear hal HA2 HRI
          obtain ⟨nl, hnl⟩ : ∃ nl, nl = Il.length := ⟨_, rfl⟩
          obtain ⟨nm, hnm⟩ : ∃ nm, nm = Im.length := ⟨_, rfl⟩
          obtain ⟨nn, hnn⟩ : ∃ nn, nn = In.length := ⟨_, rfl⟩
          rw [← hnl, ← hnm, ← hnn] at HA3
          rw [← hnl, ← hnm, ← hnn]
          have hL1 : nl ≤ mo := by rw [hnl]; exact HLE.out.1
          have hL2 : nm ≤ mo := by rw [hnm]; exact HLE.out.2.1
          have hL3 : nn ≤ mo := by rw [hnn]; exact HLE.out.2.2
          have HNL : Hid (Il.length = nl ∧ In.length = nn) := ⟨hnl.symm, hnn.symm⟩
          clear HLE hnl hnm hnn
          go_wp2_with fail
          go_loopw [28, 29] (fun s28 s29 wr => ∃ (i q c' : Nat) (a' : Option Addr), i ≤ nl ∧ q ≤ i ∧ s29 = .int .i64 (i : Int) ∧ s28 = .slice a' q c' ∧ Hid (Below wn.heap.size wn wr ∧ OwnI wr wn.heap.size a' q c' ((Il.take i).filter fun x => decide (x.1 ≠ u)))) (fun _ s29 _ => nl - (intOf s29).toNat)
          case atStart => exact ⟨0, 0, 0, none, Nat.zero_le _, Nat.le_refl _, rfl, rfl, Below.refl _ _, OwnI.nil _ _⟩
          case round =>
            obtain ⟨i, q, c', a', hin, hqi, rfl, rfl, HI⟩ := hrel
            by_cases hi : i < nl
            · have hiI : (i : Int) < (nl : Int) := by omega
              have hil2 : i < Il.length := by rw [HNL.out.1]; exact hi
              obtain ⟨g, hga, hc⟩ := (HA3.out.1.below HI.out.1).cellsAt (by omega)
              obtain ⟨x0, x1⟩ := hc i hil2
              have hx := fun W => idxI W (b := g) (n := nl) (c := cl) (i := i) hi
              have HST : Hid ((Il.take (i + 1)).filter (fun x => decide (x.1 ≠ u)) = (Il.take i).filter (fun x => decide (x.1 ≠ u)) ++ if decide (Il[i].1 ≠ u) then [Il[i]] else []) := filter_succ17 _ hil2
              clear hc
              generalize Il[i] = e at x0 x1 HST
              rw [hga]
              by_cases heu : e.1 = u
              · have hke : (e.1.toList == u.toList) = true := by rw [heu]; simp
                have HLT : Hid (Below wn.heap.size wn wr ∧ OwnI wr wn.heap.size a' q c' ((Il.take (i + 1)).filter fun x => decide (x.1 ≠ u))) := by
                  rw [HST.out, if_neg (by simp [heu]), List.append_nil]
                  exact HI.out
                clear heu HI HST
                go_wp2_with fail
                go_roundw
                case rel => exact ⟨i + 1, q, c', a', by omega, by omega, by go_num, rfl, HLT.out⟩
                case measure => simp only [intOf]; omega
              · have hke : (e.1.toList == u.toList) = false := by
                  rw [beq_eq_false_iff_ne]
                  intro h
                  exact heu (ba_ext17 (by simpa [ByteArray.toList_eq] using h))
                have HLT : Hid ((Il.take (i + 1)).filter (fun x => decide (x.1 ≠ u)) = (Il.take i).filter (fun x => decide (x.1 ≠ u)) ++ [e]) := by
                  unfold Hid
                  rw [HST.out, if_pos (by simp [heu])]
                clear heu HST
                go_wp2_with (first
                  | (at_builtin; refine wpList_pushIB wr rfl _ _ rfl wn.heap.size a' q c' _ rfl HI.out.2 e #[.string e.1, .string e.2] rfl wr.heap.size rfl rfl (by omega) HI.out.1.size ?_
                     intro a7 c7 w7 ho7 hb7
                     have H7 : Hid (Below wn.heap.size wn w7 ∧ OwnI w7 wn.heap.size a7 (q + 1) c7 ((Il.take (i + 1)).filter fun x => decide (x.1 ≠ u))) := ⟨HI.out.1.trans hb7, by rw [HLT.out]; exact ho7⟩
                     clear ho7 hb7)
                  | fail)
                go_roundw
                case rel => exact ⟨i + 1, q + 1, c7, a7, by omega, by omega, by go_num, rfl, H7.out⟩
                case measure => simp only [intOf]; omega
            · obtain rfl : i = nl := by omega
              have hiI : ¬ (i : Int) < (i : Int) := by omega
              have HB : Hid (Below wn.heap.size wn wr ∧ OwnI wr wn.heap.size a' q c' (Il.filter fun x => decide (x.1 ≠ u)) ∧ q ≤ mo) := by
                have h1 := HI.out.2
                rw [List.take_of_length_le (by rw [HNL.out.1]; exact Nat.le_refl _)] at h1
                exact ⟨HI.out.1, h1, by omega⟩
              clear HI
              obtain ⟨wk, hwk⟩ : ∃ wk, wk = wr := ⟨_, rfl⟩
              rw [← hwk] at HB ⊢
              clear hwk
              go_wp2_with fail
              go_loopw [30, 31, 32] (fun s30 s31 s32 wr => ∃ (k r c9 : Nat) (a9 : Option Addr), k ≤ nn ∧ r ≤ k ∧ s32 = .int .i64 (k : Int) ∧ s31 = .int .i64 ((((In.take k).filter fun x => decide (x.1 = u)).length : Nat) : Int) ∧ s30 = .slice a9 r c9 ∧ Hid (Below wk.heap.size wk wr ∧ OwnI wr wk.heap.size a9 r c9 ((In.take k).filter fun x => decide (x.1 ≠ u)))) (fun _ _ s32 _ => nn - (intOf s32).toNat)
              case atStart => exact ⟨0, 0, 0, none, Nat.zero_le _, Nat.le_refl _, rfl, rfl, rfl, Below.refl _ _, OwnI.nil _ _⟩
              case round =>
                obtain ⟨k, r, c9, a9, hkn, hrk, rfl, rfl, rfl, HI⟩ := hrel
                have HCU : Hid (((In.take k).filter fun x => decide (x.1 = u)).length ≤ k) := Nat.le_trans (List.length_filter_le _ _) (by rw [List.length_take]; omega)
                by_cases hk : k < nn
                · have hkI : (k : Int) < (nn : Int) := by omega
                  have hkl : k < In.length := by rw [HNL.out.2]; exact hk
                  obtain ⟨g, hga, hc⟩ := (HA3.out.2.2.1.below (HB.out.1.trans (HI.out.1.mono HB.out.1.size))).cellsAt (by omega)
                  obtain ⟨x0, x1⟩ := hc k hkl
                  have hx := fun W => idxI W (b := g) (n := nn) (c := cn) (i := k) hk
                  have HST : Hid ((In.take (k + 1)).filter (fun x => decide (x.1 ≠ u)) = (In.take k).filter (fun x => decide (x.1 ≠ u)) ++ if decide (In[k].1 ≠ u) then [In[k]] else []) := filter_succ17 _ hkl
                  have HSU : Hid ((In.take (k + 1)).filter (fun x => decide (x.1 = u)) = (In.take k).filter (fun x => decide (x.1 = u)) ++ if decide (In[k].1 = u) then [In[k]] else []) := filter_succ17 _ hkl
                  have HEV : Hid (In[k].1 = u → In[k].2 = v) := fun he => by
                    have h1 : In[k] ∈ In.filter fun x => decide (x.1 = u) := List.mem_filter.2 ⟨List.getElem_mem hkl, by simp [he]⟩
                    rw [HIN.out.2] at h1
                    rw [List.mem_singleton.1 h1]
                  clear hc
                  generalize In[k] = e at x0 x1 HST HSU HEV
                  rw [hga]
                  by_cases heu : e.1 = u
                  · have hke : (e.1.toList == u.toList) = true := by rw [heu]; simp
                    have hkv : (e.2.toList == v.toList) = true := by rw [HEV.out heu]; simp
                    have HLT : Hid (Below wk.heap.size wk wr ∧ OwnI wr wk.heap.size a9 r c9 ((In.take (k + 1)).filter fun x => decide (x.1 ≠ u)) ∧ ((In.take (k + 1)).filter fun x => decide (x.1 = u)).length = ((In.take k).filter fun x => decide (x.1 = u)).length + 1) := by
                      rw [HST.out, HSU.out, if_neg (by simp [heu]), List.append_nil, if_pos (by simp [heu])]
                      exact ⟨HI.out.1, HI.out.2, by simp⟩
                    clear heu HI HST HSU HEV
                    generalize ((In.take k).filter fun x => decide (x.1 = u)).length = tk at HLT HCU ⊢
                    have htk : tk ≤ 8001 := by have := HCU.out; omega
                    go_wp2_with fail
                    go_roundw
                    case rel => exact ⟨k + 1, r, c9, a9, by omega, by omega, by go_num, by rw [HLT.out.2.2]; go_num, rfl, HLT.out.1, HLT.out.2.1⟩
                    case measure => simp only [intOf]; omega
                  · have hke : (e.1.toList == u.toList) = false := by
                      rw [beq_eq_false_iff_ne]
                      intro h
                      exact heu (ba_ext17 (by simpa [ByteArray.toList_eq] using h))
                    have HLT : Hid ((In.take (k + 1)).filter (fun x => decide (x.1 ≠ u)) = (In.take k).filter (fun x => decide (x.1 ≠ u)) ++ [e] ∧ ((In.take (k + 1)).filter fun x => decide (x.1 = u)).length = ((In.take k).filter fun x => decide (x.1 = u)).length) := by
                      unfold Hid
                      rw [HST.out, HSU.out, if_pos (by simp [heu]), if_neg (by simp [heu]), List.append_nil]
                      exact ⟨rfl, rfl⟩
                    clear heu HST HSU HEV
                    generalize ((In.take k).filter fun x => decide (x.1 = u)).length = tk at HLT HCU ⊢
                    go_wp2_with (first
                      | (at_builtin; refine wpList_pushIB wr rfl _ _ rfl wk.heap.size a9 r c9 _ rfl HI.out.2 e #[.string e.1, .string e.2] rfl wr.heap.size rfl rfl (by omega) HI.out.1.size ?_
                         intro a7 c7 w7 ho7 hb7
                         have H7 : Hid (Below wk.heap.size wk w7 ∧ OwnI w7 wk.heap.size a7 (r + 1) c7 ((In.take (k + 1)).filter fun x => decide (x.1 ≠ u))) := ⟨HI.out.1.trans hb7, by rw [HLT.out.1]; exact ho7⟩
                         clear ho7 hb7)
                      | fail)
                    go_roundw
                    case rel => exact ⟨k + 1, r + 1, c7, a7, by omega, by omega, by go_num, by rw [HLT.out.2], rfl, H7.out⟩
                    case measure => simp only [intOf]; omega
                · obtain rfl : k = nn := by omega
                  have hkI : ¬ (k : Int) < (k : Int) := by omega
                  have HT : Hid (In.take k = In) := List.take_of_length_le (by rw [HNL.out.2]; exact Nat.le_refl _)
                  rw [HT.out, HIN.out.2]
                  have HZ : Hid (OwnI wr wl.heap.size am nm cm (Il.filter fun x => decide (x.1 ≠ u)) ∧ OwnI wr wn.heap.size a' q c' (Il.filter fun x => decide (x.1 ≠ u)) ∧ OwnI wr wk.heap.size a9 r c9 (Il.filter fun x => decide (x.1 ≠ u)) ∧ Below w.heap.size w wr) := by
                    have h1 := HI.out.2
                    rw [HT.out, HIN.out.1] at h1
                    have h2 := HA3.out.2.1
                    rw [HIM.out] at h2
                    have h3 := HB.out.1.trans (HI.out.1.mono HB.out.1.size)
                    exact ⟨h2.below h3, HB.out.2.1.below HI.out.1, h1, HA3.out.2.2.2.trans (h3.mono HA3.out.2.2.2.size)⟩
                  clear HI HT HA3
                  go_wp2_with fail
                  have hsame := vsame_any HZ.out.1 HZ.out.2.1 (by omega)
                  rw [decide_eq_true (show (Il.filter fun x => decide (x.1 ≠ u)) = Il.filter fun x => decide (x.1 ≠ u) from rfl)] at hsame
                  refine hsame.mono ?_
                  rintro _ wp ⟨rfl, hbp⟩
                  have HP : Hid (Below wr.heap.size wr wp) := hbp
                  clear hsame hbp
                  go_wp2_with fail
                  have hsame := vsame_any (HZ.out.2.2.1.below HP.out) (HZ.out.2.1.below HP.out) (by omega)
                  rw [decide_eq_true (show (Il.filter fun x => decide (x.1 ≠ u)) = Il.filter fun x => decide (x.1 ≠ u) from rfl)] at hsame
                  refine hsame.mono ?_
                  rintro _ wq ⟨rfl, hbq⟩
                  have HQ : Hid (Below w.heap.size w wq) := HZ.out.2.2.2.trans ((HP.out.trans (hbq.mono HP.out.size)).mono HZ.out.2.2.2.size)
                  clear hsame hbq HP HZ
                  go_wp2
                  go_ret
                  exact ⟨ret1 rfl, HQ.out⟩
end Go.Proofs.Ytjoamhcehpjepab
/- The contracts of the document's own Go and Told. -/
namespace Go.Proofs.Ytjoamhcehpjepab
open Go.RowKit
set_option linter.unusedVariables false
set_option linter.unusedSimpArgs false
theorem normO_fit {l : List KV} {j i : Nat} (h : normO l j = some i) : i < l.length := by
  unfold normO at h
  split at h
  · cases h; assumption
  · cases h
theorem goP_fit {l : List KV} {g : Nat} {k : IK} {o : Option Nat} (ho : ∀ i, o = some i → i < l.length) {i : Nat} (h : goP l g k o = some i) : i < l.length := by
  unfold goP at h
  split at h
  · exact normO_fit h
  · split at h
    · cases h
    · cases h; omega
  · exact normO_fit h
  · cases o with
    | none => cases h
    | some j => exact normO_fit h
  · cases o with
    | none => cases h
    | some j =>
      have := ho j rfl
      simp only [Option.bind_some] at h
      split at h
      · cases h
      · cases h; omega
  · exact ho i h
theorem normO_enc (l : List KV) (i : Nat) : encI (normO l i) = if i < l.length then (i : Int) else -1 := by
  unfold normO
  split <;> rfl
/-- What a step keeps. -/
def KeyA (k : IK) : Array Value := #[.string k.user, .int .u64 (k.seq : Int), .int .i64 k.kind]
abbrev keyV (k : IK) : Value := .agg #[.string k.user, .int .u64 (k.seq : Int), .int .i64 k.kind]
end Go.Proofs.Ytjoamhcehpjepab
/- The contracts of the document's own Go by a key, and of Told. -/
namespace Go.Proofs.Ytjoamhcehpjepab
open Go.RowKit
set_option linter.unusedVariables false
set_option linter.unusedSimpArgs false
theorem seekI_at {k : IK} : ∀ {l : List KV} {i : Nat}, i ≤ l.length → (∀ j (hj : j < l.length), j < i → l[j].1.cmp k < 0) → (∀ hi : i < l.length, ¬ l[i].1.cmp k < 0) → seekI l k = i
  | [], i, h, _, _ => by
    obtain rfl : i = 0 := by simpa using h
    rfl
  | e :: l, 0, _, _, h => by
    have := h (by simp)
    show (List.takeWhile _ (e :: l)).length = 0
    rw [List.takeWhile_cons_of_neg (by simpa using this)]
    rfl
  | e :: l, i + 1, h, h1, h2 => by
    have h0 := h1 0 (by simp) (by omega)
    show (List.takeWhile _ (e :: l)).length = i + 1
    rw [List.takeWhile_cons_of_pos (by simpa using h0)]
    have ih := seekI_at (k := k) (l := l) (i := i) (by simpa using h) (fun j hj hji => h1 (j + 1) (by simpa using hj) (by omega)) (fun hi => h2 (by simpa using hi))
    show (List.takeWhile _ l).length + 1 = i + 1
    unfold seekI at ih
    rw [ih]
def atOf (w : World) (p : Nat) : Nat := match w.cell? ⟨p, 1, none⟩ with
  | some (.int _ i) => i.toNat
  | _ => 0
end Go.Proofs.Ytjoamhcehpjepab
