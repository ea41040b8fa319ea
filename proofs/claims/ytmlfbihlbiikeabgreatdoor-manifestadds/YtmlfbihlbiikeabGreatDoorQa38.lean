/- The contract of the statements' own state. -/
import Derived.Test.YtmlfbihlbiikeabGreatDoorQa31
import Derived.Test.YtmlfbihlbiikeabGreatDoorQa28
import Derived.Test.YtmlfbihlbiikeabGreatDoorQa42
import Derived.Test.YtmlfbihlbiikeabGreatDoorQa21
import Derived.Deep.DeepCutAuto
import Derived.Deep.RegionHeld3
import Derived.BigQuiet
import Derived.Test.YtmlfbihlbiikeabGreatDoorQa32
namespace Go.Proofs.YtmlfbihlbiikeabGreatDoor
set_option maxRecDepth 100000
open Go.RowKit
set_option linter.unusedVariables false
set_option linter.unusedSimpArgs false
structure Sg (w : World) (s : PSt) (t : SV) (W : World) : Prop where
  base : Below w.heap.size w W
  r : Box W w.heap.size TSt (sA zS sv0)
  st : Box W (w.heap.size + 1) TSt (sA s t)
  own : OwnV W (w.heap.size + 2) s.v t
  wf : WfV s.v
theorem Sg.new (w : World) (s : PSt) (hs : s.v = noV) : Sg w s sv0 ((w.alloc (.cells (sA zS sv0) TSt)).alloc (.cells (sA s sv0) TSt)) := by
  refine ⟨((Below.refl _ _).alloc (Nat.le_refl _) _).alloc (by simp) _, (Box.new _ _ _).alloc _, ?_, ?_, ?_⟩
  · have := Box.new (w.alloc (.cells (sA zS sv0) TSt)) TSt (sA s sv0)
    rw [World.size_alloc] at this
    exact this
  · rw [hs]; exact OwnV.none _ _
  · rw [hs]; exact zS_wf
theorem Sg.later {w W W' : World} {s : PSt} {t : SV} (h : Sg w s t W) (hb : Below W.heap.size W W') : Sg w s t W' :=
  ⟨h.base.trans (hb.mono h.base.size), h.r.kept (hb.block _ h.r.lt), h.st.kept (hb.block _ h.st.lt), h.own.below hb, h.wf⟩
set_option maxHeartbeats 8000000 in
theorem state_any (num last : Nat) (a : Option Addr) (n c : Nat) (l : List (PE × SE)) (w : World) (h : EsAt w a n c l) (hn : n ≤ 2000000000000) (h1 : num ≤ 1000) (hl : last < 18446744073709551616) :
    Calls Tryz.prog 9 #[.int .u64 (num : Int), .int .u64 (last : Int), .slice a n c] w fun e w' => ∃ t, e = .returned (sV (stateP num last (l.map Prod.fst)) t) ∧ OwnV w' w.heap.size (stateP num last (l.map Prod.fst)).v t ∧ WfV (stateP num last (l.map Prod.fst)).v ∧ Below w.heap.size w w' := by
  have HE : Hid (EsAt w a n c l ∧ (l.map Prod.fst).length = n) := ⟨h, by rw [List.length_map]; exact h.size⟩
  have hln := h.size
  have HFEW : Hid (∀ k, ((((l.map Prod.fst).take 6).take k).foldl stA (st0 num last)).v.all.length ≤ 600) := fun k => by
    have g := fold_ok (((l.map Prod.fst).take 6).take k) (st0_ok num last)
    have h6 : (((l.map Prod.fst).take 6).take k).length ≤ 6 := by simp; omega
    have := g.few
    omega
  have HST : Hid (stateP num last (l.map Prod.fst) = ((l.map Prod.fst).take 6).foldl stA (st0 num last)) := rfl
  generalize stateP num last (l.map Prod.fst) = sp at HST ⊢
  clear h
  have hrem : ∀ W : World, (binOp .rem 23 (.int .u64 (num : Int)) (.int .u64 7)).run Tryz.prog W = .ok (.int .u64 ((num % 7 : Nat) : Int)) W := fun W => by
    simp [go_sem, Tryz.underlying23]
    exact Int.tmod_eq_emod_of_nonneg (by omega)
  have hadd : ∀ W : World, (binOp .add 23 (.int .u64 1) (.int .u64 ((num % 7 : Nat) : Int))).run Tryz.prog W = .ok (.int .u64 ((1 + num % 7 : Nat) : Int)) W := fun W => by
    simp [go_sem, Tryz.underlying23]
    have h70 : (0 : Int) ≤ (num : Int) % 7 := by omega
    have h71 : (num : Int) % 7 < 7 := by omega
    exact IntWalk.u64_in _ (by omega)
  have hadd2 : ∀ W : World, (binOp .add 23 (.int .u64 (num : Int)) (.int .u64 1)).run Tryz.prog W = .ok (.int .u64 ((num + 1 : Nat) : Int)) W := fun W => by
    simp [go_sem, Tryz.underlying23]
    exact IntWalk.u64_in _ (by omega)
  have hrem2 : ∀ W : World, (binOp .rem 23 (.int .u64 (last : Int)) (.int .u64 72057594037927935)).run Tryz.prog W = .ok (.int .u64 ((last % 72057594037927935 : Nat) : Int)) W := fun W => by
    simp [go_sem, Tryz.underlying23]
    exact Int.tmod_eq_emod_of_nonneg (by omega)
  have hw1 : IntKind.u64.wrap ((num : Int) + 1) = (num : Int) + 1 := IntWalk.u64_in _ (by omega)
  have HNW : Hid (num ≤ 1000 ∧ last < 18446744073709551616) := ⟨h1, hl⟩
  clear h1 hl
  go_enter Tryz.func9, Tryz.ntmps9
  obtain ⟨W1, eW1, H1⟩ : ∃ W1, Hid (W1 = (w.alloc (.cells (sA zS sv0) TSt)).alloc (.cells (sA (st0 num last) sv0) TSt)) ∧ Hid (Sg w (st0 num last) sv0 W1) := ⟨_, rfl, Sg.new w _ rfl⟩
  go_wp2_with fail
  rw [show ((w.alloc (.cells #[.int .u64 0, .slice none 0 0, .slice none 0 0, .slice none 0 0, .slice none 0 0, .int .u64 0, .int .u64 0, .int .u64 0] TSt)).alloc (.cells #[.int .u64 (num : Int), .slice none 0 0, .slice none 0 0, .slice none 0 0, .slice none 0 0, .int .u64 (1 + (num : Int) % 7), .int .u64 ((num : Int) + 1), .int .u64 ((last : Int) % 72057594037927935)] TSt)) = W1 from by rw [eW1.out]; unfold sA st0 zS; simp [noV, sv0]]
  clear eW1
  go_loopw [8] (fun x8 wr => ∃ (k : Nat) (s : PSt) (t : SV), k ≤ n ∧ k ≤ 6 ∧ x8 = .int .i64 (k : Int) ∧ Hid (s = ((l.map Prod.fst).take k).foldl stA (st0 num last) ∧ Sg w s t wr)) (fun x8 _ => 6 - (intOf x8).toNat)
  case atStart => exact ⟨0, _, sv0, Nat.zero_le _, Nat.zero_le _, rfl, rfl, H1.out⟩
  case round =>
    obtain ⟨k, s, t, hk, hk6, rfl, HI⟩ := hrel
    by_cases hkn : k < n
    · by_cases hk5 : k < 6
      · have hkI : (k : Int) < (n : Int) := by omega
        have hk6I : (k : Int) < 6 := by omega
        have hkl : k < l.length := by omega
        obtain ⟨be, oe, hixe, hbe, hce⟩ := HE.out.1.at hkl
        have HX : Hid (EdAt w l[k].1 l[k].2 ∧ WfE l[k].1) := ⟨(HE.out.1.each _ (List.getElem_mem _)).1, (HE.out.1.each _ (List.getElem_mem _)).2.1⟩
        have HT : Hid (((l.map Prod.fst).take (k + 1)).foldl stA (st0 num last) = stA s l[k].1) := by
          unfold Hid
          rw [List.take_succ_eq_append_getElem (by rw [List.length_map]; exact hkl), List.foldl_append, ← HI.out.1]
          simp
        have HF6 : Hid (s.v.all.length < 60000) := by
          have h6 := HFEW.out k
          rw [List.take_take, Nat.min_eq_left hk6, ← HI.out.1] at h6
          unfold Hid
          omega
        have HEC : Hid (∀ W : World, Below w.heap.size w W → E5 W be oe l[k].1 l[k].2) := hce
        clear hce
        generalize l[k] = xe at HX HT HEC
        obtain ⟨x, se⟩ := xe
        dsimp only at HX HT HEC
        have hber : be < wr.heap.size := Nat.lt_of_lt_of_le hbe HI.out.2.base.size
        have hpr : w.heap.size + 1 < wr.heap.size := HI.out.2.st.lt
        have hne1 : w.heap.size + 1 ≠ wr.heap.size := by omega
        have hne2 : be ≠ wr.heap.size := by omega
        have hne3 : wr.heap.size ≠ w.heap.size + 1 := by omega
        have hne4 : wr.heap.size ≠ be := by omega
        obtain ⟨r, u0, hru⟩ : ∃ (r : Nat) (u : PV), applyV s.v x = (r, u) := ⟨_, _, rfl⟩
        have HR : Hid (applyV s.v x = (r, u0)) := hru
        have HAP : Hid (∀ V : World, Below wr.heap.size wr V → Calls Tryz.prog 17 #[.agg #[.slice (t.a 0) (s.v 0).length (t.c 0), .slice (t.a 1) (s.v 1).length (t.c 1), .slice (t.a 2) (s.v 2).length (t.c 2), .slice (t.a 3) (s.v 3).length (t.c 3)], .agg #[.int .u64 (x.log : Int), .int .u64 (x.next : Int), .int .u64 (x.last : Int), .slice se.a x.dels.length se.c, .slice se.a' x.adds.length se.c']] V fun e w' => ∃ u : SV, e = .returned (.tuple #[.agg #[.slice (u.a 0) (u0 0).length (u.c 0), .slice (u.a 1) (u0 1).length (u.c 1), .slice (u.a 2) (u0 2).length (u.c 2), .slice (u.a 3) (u0 3).length (u.c 3)], .int .i64 (r : Int)]) ∧ OwnV w' V.heap.size u0 u ∧ Below V.heap.size V w') := fun V hV => by
          have h0 := vapply_any s.v t x se V (HI.out.2.own.at.below hV) (HX.out.1.below (HI.out.2.base.trans (hV.mono HI.out.2.base.size))) HI.out.2.wf HX.out.2 HF6.out
          rw [HR.out] at h0
          exact h0
        clear hru
        have HC : Hid (∀ V : World, Below wr.heap.size wr V → V.cell? ⟨w.heap.size + 1, 1, none⟩ = some (.slice (t.a 0) (s.v 0).length (t.c 0)) ∧ V.cell? ⟨w.heap.size + 1, 2, none⟩ = some (.slice (t.a 1) (s.v 1).length (t.c 1)) ∧ V.cell? ⟨w.heap.size + 1, 3, none⟩ = some (.slice (t.a 2) (s.v 2).length (t.c 2)) ∧ V.cell? ⟨w.heap.size + 1, 4, none⟩ = some (.slice (t.a 3) (s.v 3).length (t.c 3)) ∧ V.cell? ⟨be, oe, none⟩ = some (.int .u64 (x.log : Int)) ∧ V.cell? ⟨be, oe + 1, none⟩ = some (.int .u64 (x.next : Int)) ∧ V.cell? ⟨be, oe + 2, none⟩ = some (.int .u64 (x.last : Int)) ∧ V.cell? ⟨be, oe + 3, none⟩ = some (.slice se.a x.dels.length se.c) ∧ V.cell? ⟨be, oe + 4, none⟩ = some (.slice se.a' x.adds.length se.c')) := fun V hV => by
          have h5 := HEC.out V (HI.out.2.base.trans (hV.mono HI.out.2.base.size))
          obtain ⟨d0, d1, d2, d3, d4, d5, d6, d7⟩ := (HI.out.2.st.kept (hV.block _ HI.out.2.st.lt)).eight
          exact ⟨d1, d2, d3, d4, h5.c0, h5.c1, h5.c2, h5.c3, h5.c4⟩
        go_wp2_with fail
        go_cut [9, 10] (fun s9 s10 wz => ∃ (pv : Nat) (u : SV), s9 = .pointer (some ⟨pv, 0, none⟩) ∧ s10 = .int .i64 (r : Int) ∧ Ow wr pv u0 u wz)
        case first =>
          have HD0 : Hid (Below wr.heap.size wr wr.drew) := (Below.refl _ _).drew
          have HDV : Hid (Below wr.heap.size wr (wr.alloc (.cells #[.slice none 0 0, .slice none 0 0, .slice none 0 0, .slice none 0 0] TVn)).drew) := ((Below.refl _ _).alloc (Nat.le_refl _) _).drew
          obtain ⟨z0, z1, z2, z3, z4, z5, z6, z7, z8⟩ := HC.out _ HD0.out
          obtain ⟨x0, x1, x2, x3, x4, x5, x6, x7, x8⟩ := HC.out _ HDV.out
          go_region_held3 (fun V => V.cell? ⟨w.heap.size + 1, 1, none⟩ = some (.slice (t.a 0) (s.v 0).length (t.c 0)) ∧ V.cell? ⟨w.heap.size + 1, 2, none⟩ = some (.slice (t.a 1) (s.v 1).length (t.c 1)) ∧ V.cell? ⟨w.heap.size + 1, 3, none⟩ = some (.slice (t.a 2) (s.v 2).length (t.c 2)) ∧ V.cell? ⟨w.heap.size + 1, 4, none⟩ = some (.slice (t.a 3) (s.v 3).length (t.c 3)) ∧ V.cell? ⟨be, oe, none⟩ = some (.int .u64 (x.log : Int)) ∧ V.cell? ⟨be, oe + 1, none⟩ = some (.int .u64 (x.next : Int)) ∧ V.cell? ⟨be, oe + 2, none⟩ = some (.int .u64 (x.last : Int)) ∧ V.cell? ⟨be, oe + 3, none⟩ = some (.slice se.a x.dels.length se.c) ∧ V.cell? ⟨be, oe + 4, none⟩ = some (.slice se.a' x.adds.length se.c')) (first | with_reducible exact ⟨z0, z1, z2, z3, z4, z5, z6, z7, z8⟩ | with_reducible exact ⟨x0, x1, x2, x3, x4, x5, x6, x7, x8⟩ | go_keep)
            (first
              | (go_at_call 17; (with_reducible refine (HAP.out _ HD0.out).mono ?_); rintro _ vx ⟨u, rfl, HO, hvx⟩; have HY : Hid (Below wr.heap.size wr vx) := HD0.out.trans (hvx.mono (by simp)); have hge : wr.heap.size ≤ vx.heap.size := HY.out.size; have hn1 : w.heap.size + 1 ≠ vx.heap.size := (by omega); have hn2 : be ≠ vx.heap.size := (by omega); clear hvx z0 z1 z2 z3 z4 z5 z6 z7 z8; obtain ⟨z0, z1, z2, z3, z4, z5, z6, z7, z8⟩ := HC.out _ HY.out)
              | (go_at_call 17; (with_reducible refine (HAP.out _ HDV.out).mono ?_); rintro _ vx ⟨u, rfl, HO, hvx⟩; have HY : Hid (Below wr.heap.size wr vx) := HDV.out.trans (hvx.mono (by simp)); have KB : Hid (Box vx wr.heap.size TVn #[.slice none 0 0, .slice none 0 0, .slice none 0 0, .slice none 0 0]) := (by have h9 : Box (wr.alloc (.cells #[.slice none 0 0, .slice none 0 0, .slice none 0 0, .slice none 0 0] TVn)).drew wr.heap.size TVn #[.slice none 0 0, .slice none 0 0, .slice none 0 0, .slice none 0 0] := Box.new wr TVn #[.slice none 0 0, .slice none 0 0, .slice none 0 0, .slice none 0 0]; exact h9.kept (hvx.block _ h9.lt)); have k0 := KB.out.cell 0; have k1 := KB.out.cell 1; have k2 := KB.out.cell 2; have k3 := KB.out.cell 3; have ks := KB.out.soft; clear hvx z0 z1 z2 z3 z4 z5 z6 z7 z8; obtain ⟨z0, z1, z2, z3, z4, z5, z6, z7, z8⟩ := HC.out _ HY.out))
          all_goals go_wp2_with fail
          all_goals go_meet
          all_goals first
            | exact ⟨_, u, rfl, rfl, Ow.new HY.out HO (Nat.le_refl _)⟩
            | exact ⟨_, u, rfl, rfl, Ow.set HY.out HO (by show _ < (wr.alloc _).heap.size; rw [World.size_alloc]; exact Nat.lt_succ_self _) (Nat.le_refl _) KB.out⟩
        case rest =>
          obtain ⟨pv, u, rfl, rfl, HOW⟩ := hcut
          have HW : Hid (Ow wr pv u0 u wc ∧ Sg w s t wc) := ⟨HOW, HI.out.2.later HOW.below⟩
          clear HOW
          obtain ⟨v0, v1, v2, v3⟩ := HW.out.1.box.fourV
          obtain ⟨d0, d1, d2, d3, d4, d5, d6, d7⟩ := HW.out.2.st.eight
          have rs : ∀ j, wc.frozen? ⟨w.heap.size + 1, j, none⟩ = false := fun j => HW.out.2.st.soft j
          by_cases hr : r = 0
          · subst hr
            have HSN : Hid (stA s x = ⟨s.num, u0, s.log, s.next, s.last⟩) := by
              unfold Hid stA
              rw [HR.out]
              rfl
            have HWU : Hid (WfV u0) := wf_apply HR.out HI.out.2.wf HX.out.2
            obtain ⟨Z, eZ, HZ⟩ := put4_all HW.out.2.st u0 u
            have HNX : Hid (Sg w ⟨s.num, u0, s.log, s.next, s.last⟩ u Z) := by
              have hge := HW.out.1.ge
              refine ⟨HW.out.2.base.trans (HZ.out.2.below (fun k hk => by omega) HW.out.2.base.size), HW.out.2.r.kept (HZ.out.2.block _ HW.out.2.r.lt (by omega)), HZ.out.1, ?_, HWU.out⟩
              exact (HW.out.1.own.kept15 (w' := Z) fun k hk hB => HZ.out.2.block k hk (by omega)).lower (by omega)
            go_wp2_with fail
            rw [← eZ]
            go_roundw
            case rel => exact ⟨k + 1, _, u, hkn, hk5, by go_num, by rw [HT.out, HSN.out], HNX.out⟩
            case measure => simp only [intOf]; omega
          · have hrb : ((r : Int) == 0) = false := beq_eq_false_iff_ne.2 (by omega)
            have HSN : Hid (stA s x = s) := by
              unfold Hid stA
              rw [HR.out]
              simp [hr]
            go_wp2
            go_roundw
            case rel => exact ⟨k + 1, s, t, hkn, hk5, by go_num, by rw [HT.out, HSN.out], HW.out.2⟩
            case measure => simp only [intOf]; omega
      · obtain rfl : k = 6 := by omega
        have hkI : ((6 : Nat) : Int) < (n : Int) := by omega
        have HSP : Hid (sp = s) := by
          unfold Hid
          rw [HST.out, HI.out.1]
        obtain ⟨d0, d1, d2, d3, d4, d5, d6, d7⟩ := HI.out.2.st.eight
        obtain ⟨r0, r1, r2, r3, r4, r5, r6, r7⟩ := HI.out.2.r.eight
        have rsf : ∀ j, wr.frozen? ⟨w.heap.size, j, none⟩ = false := fun j => HI.out.2.r.soft j
        obtain ⟨Z, eZ, z0, z1, z2, z3, z4, z5, z6, z7, HZ⟩ := put8_all HI.out.2.r (.int .u64 (s.num : Int)) (.slice (t.a 0) (s.v 0).length (t.c 0)) (.slice (t.a 1) (s.v 1).length (t.c 1)) (.slice (t.a 2) (s.v 2).length (t.c 2)) (.slice (t.a 3) (s.v 3).length (t.c 3)) (.int .u64 (s.log : Int)) (.int .u64 (s.next : Int)) (.int .u64 (s.last : Int))
        have HOV : Hid (OwnV Z w.heap.size s.v t ∧ Below w.heap.size w Z) := ⟨(HI.out.2.own.kept15 (w' := Z) fun k hk hB => HZ.out.2.block k hk (by omega)).lower (by omega), HI.out.2.base.trans (HZ.out.2.below (fun k hk => by omega) HI.out.2.base.size)⟩
        go_wp2
        rw [← eZ]
        refine bodyPost_ret (v := sV s t) (by simp [results, Tryz.results9, go_sem, z0, z1, z2, z3, z4, z5, z6, z7]) rfl ?_
        rw [HSP.out]
        exact ⟨t, rfl, HOV.out.1, HI.out.2.wf, HOV.out.2⟩
    · obtain rfl : k = n := by omega
      have HSP : Hid (sp = s) := by
        unfold Hid
        rw [HST.out, HI.out.1]
        rw [List.take_of_length_le (by rw [HE.out.2]; omega), List.take_of_length_le (by rw [HE.out.2]; omega)]
      obtain ⟨d0, d1, d2, d3, d4, d5, d6, d7⟩ := HI.out.2.st.eight
      obtain ⟨r0, r1, r2, r3, r4, r5, r6, r7⟩ := HI.out.2.r.eight
      have rsf : ∀ j, wr.frozen? ⟨w.heap.size, j, none⟩ = false := fun j => HI.out.2.r.soft j
      obtain ⟨Z, eZ, z0, z1, z2, z3, z4, z5, z6, z7, HZ⟩ := put8_all HI.out.2.r (.int .u64 (s.num : Int)) (.slice (t.a 0) (s.v 0).length (t.c 0)) (.slice (t.a 1) (s.v 1).length (t.c 1)) (.slice (t.a 2) (s.v 2).length (t.c 2)) (.slice (t.a 3) (s.v 3).length (t.c 3)) (.int .u64 (s.log : Int)) (.int .u64 (s.next : Int)) (.int .u64 (s.last : Int))
      have HOV : Hid (OwnV Z w.heap.size s.v t ∧ Below w.heap.size w Z) := ⟨(HI.out.2.own.kept15 (w' := Z) fun k hk hB => HZ.out.2.block k hk (by omega)).lower (by omega), HI.out.2.base.trans (HZ.out.2.below (fun k hk => by omega) HI.out.2.base.size)⟩
      go_wp2
      rw [← eZ]
      refine bodyPost_ret (v := sV s t) (by simp [results, Tryz.results9, go_sem, z0, z1, z2, z3, z4, z5, z6, z7]) rfl ?_
      rw [HSP.out]
      exact ⟨t, rfl, HOV.out.1, HI.out.2.wf, HOV.out.2⟩
end Go.Proofs.YtmlfbihlbiikeabGreatDoor
namespace Go.Proofs.YtmlfbihlbiikeabGreatDoor
open Go.RowKit
set_option linter.unusedVariables false
set_option linter.unusedSimpArgs false
section
variable {J : Face} {w0 w w' : World} {p : Nat} {S S' : PFs} {R R' : Nat → Prop} {v : PV} {t : SV}
theorem fw_state (H : FsOk J) (h : Fw J w0 p S R w) (num last : Nat) (a : Option Addr) (n c : Nat) (l : List (PE × SE)) (he : EsAt w a n c l) (hn : n ≤ 2000000000000) (h1 : num ≤ 1000) (hl : last < 18446744073709551616) :
    Calls Tryz.prog 9 #[.int .u64 (num : Int), .int .u64 (last : Int), .slice a n c] w fun e w' => ∃ t, e = .returned (sV (stateP num last (l.map Prod.fst)) t) ∧ ∃ R', Fw J w0 p S R' w' ∧ Nx R R' w w' ∧ VS w' R' (stateP num last (l.map Prod.fst)).v t := by
  refine (state_any num last a n c l w he hn h1 hl).mono ?_
  rintro e w' ⟨t, he, ho, hw, hb⟩
  obtain ⟨R', a, b, c⟩ := h.call H hb
  exact ⟨t, he, R', c, ⟨a, Kp.of hb⟩, VS.new ho hw b⟩
structure BH (w : World) (R : Nat → Prop) (a : Option Addr) (n c : Nat) (bs : List UInt8) : Prop where
  own : ∃ B, OwnB w B a n c bs
  mine : ∀ k, (Value.slice a n c).ownBlock = some k → R k
theorem BH.nx {a : Option Addr} {n c : Nat} {bs : List UInt8} (h : BH w R a n c bs) (k : Nx R R' w w') : BH w' R' a n c bs := by
  obtain ⟨B, h1⟩ := h.own
  exact ⟨⟨B, h1.kept k.kp h.mine⟩, fun i hi => k.more _ (h.mine i hi)⟩
theorem BH.bs {a : Option Addr} {n c : Nat} {bs : List UInt8} (h : BH w R a n c bs) : BsAt w a n c bs := by
  obtain ⟨B, h1⟩ := h.own
  exact h1.bs
theorem fw_read (H : FsOk J) (h : Fw J w0 p S R w) (name : ByteArray) : Calls Tryz.prog 10 #[at_ p, .string name] w fun e w' => ∃ a c, e = .returned (.tuple #[.slice a (S.read name.data.toList).1.length c, .int .i64 ((S.read name.data.toList).2 : Nat)]) ∧ ∃ R', Fw J w0 p S R' w' ∧ Nx R R' w w' ∧ BH w' R' a (S.read name.data.toList).1.length c (S.read name.data.toList).1 := by
  refine (H.read 0 name h.j rfl).mono ?_
  rintro e w' ⟨a, c, he, ho, hj, hk⟩
  refine ⟨a, c, he, _, ⟨hj, fun i hi => hi.elim (fun g => Nat.lt_of_lt_of_le (h.lt i g) hk.size) (fun g => (ho.row.lt i g).2), fun k hk => .inl (h.low k hk), h.base.trans (hk.below h.low h.base.size), h.gl0, h.h8⟩, ⟨fun k hk => .inl hk, hk⟩, ⟨_, ho⟩, fun k hk => .inr hk⟩
theorem fw_append (H : FsOk J) (h : Fw J w0 p S R w) (num : Nat) (x : PE) (sx : SE) (hS : S.asked < 900000) (hx : EdAt w x sx) (hw : WfE x) (hnum : num < 18446744073709551616) :
    Calls Tryz.prog 11 #[at_ p, .int .u64 (num : Int), .agg #[.int .u64 (x.log : Int), .int .u64 (x.next : Int), .int .u64 (x.last : Int), .slice sx.a x.dels.length sx.c, .slice sx.a' x.adds.length sx.c']] w fun e w' => e = .returned (.int .i64 ((appendP num x S).2 : Nat)) ∧ FR J w0 p (appendP num x S).1 R w w' :=
  (append_any H (i := 0) num x sx h.j rfl hS h.gl hx hw hnum).mono fun e w' ⟨a, b, c⟩ => ⟨a, FR.mk' h b c⟩
end
end Go.Proofs.YtmlfbihlbiikeabGreatDoor
