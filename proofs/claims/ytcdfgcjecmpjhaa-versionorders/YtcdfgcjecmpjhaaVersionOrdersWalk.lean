/- The walk of VersionOrders. -/
import Derived.Test.YtcdfgcjecmpjhaaV14Awake
import Derived.Test.YtcdfgcjecmpjhaaV14Ord
import Derived.Test.YtcdfgcjecmpjhaaV14RSame
import Derived.Deep.DeepCutAuto
import Derived.Deep.RegionHeld3
import Derived.BigQuiet
namespace Go.Proofs.Ytcdfgcjecmpjhaa
open Go.RowKit
set_option linter.unusedVariables false
set_option linter.unusedSimpArgs false
set_option maxRecDepth 100000 in
set_option maxHeartbeats 8000000 in
theorem versionOrders_walk (a : Option Addr) (n c : Nat) (l : List PF) (w : World) (h : FlAt w a n c l) (hn : n * 88 ≤ 140737488351232) (hwf : ∀ f ∈ l, WfF f) :
    Calls Try.prog 7 #[.slice a n c] w fun e w' => e = .returned (.bool true) ∧ Below w.heap.size w w' := by
  have HV : Hid (FlAt w a n c l ∧ ∀ f ∈ l, WfF f) := ⟨h, hwf⟩
  have hlc := h.row.le
  have hmx := h.row.max
  unfold maxLen at hmx
  clear h hwf
  go_enter Try.func7, Try.ntmps7
  go_wp2_with fail
  refine (awake_any _).mono ?_
  rintro _ w1 ⟨rfl, hb1⟩
  have H1 : Hid (Below w.heap.size w w1) := hb1
  clear hb1
  go_upto_if 19 with fail
  go_cut [0] (fun s0 wz => ∃ m : Nat, s0 = .slice a m c ∧ m ≤ 100 ∧ m ≤ n ∧ wz = w1)
  case first =>
    by_cases h10 : n ≤ 100
    · have h10b : ¬ (100 : Int) < (n : Int) := by omega
      go_wp2_with fail
      go_meet
      exact ⟨n, rfl, h10, Nat.le_refl _, rfl⟩
    · have h10b : (100 : Int) < (n : Int) := by omega
      have hc10 : (100 : Int) ≤ (c : Int) := by omega
      go_wp2_with fail
      go_meet
      exact ⟨100, by cases a <;> simp [Addr.add], Nat.le_refl _, by omega, rfl⟩
  case rest =>
    obtain ⟨m, rfl, hm10, hmn, rfl⟩ := hcut
    have HM : Hid (FlAt w a m c (l.take m) ∧ ∀ f ∈ l.take m, WfF f) := ⟨HV.out.1.take hmn, fun f hf => HV.out.2 f (List.mem_of_mem_take hf)⟩
    generalize l.take m = l2 at HM
    clear HV
    have hlm : l2.length = m := HM.out.1.size
    have hml : (m : Int) ≤ 100 := by omega
    obtain ⟨W4, eW, HK⟩ : ∃ W4, W4 = (wc.alloc (.cells #[.slice none 0 0, .slice none 0 0, .slice none 0 0, .slice none 0 0] TVn)).alloc (.cells #[.slice none 0 0, .slice none 0 0, .slice none 0 0, .slice none 0 0] TVn) ∧ Hid (Or w wc.heap.size noV sv0 noV sv0 W4) := ⟨_, rfl, Or.new H1.out⟩
    go_upto_region 6 with fail
    rw [← eW]
    generalize wc.heap.size = p4 at HK ⊢
    clear eW H1
    go_wp2_with fail
    go_loopw [6] (fun s6 wr => ∃ (i : Nat) (va : PV) (sa : SV), i ≤ m ∧ s6 = .int .i64 (i : Int) ∧ Hid (Or w p4 va sa noV sv0 wr ∧ LdA (l2.take i) va)) (fun s6 _ => m - (intOf s6).toNat)
    case atStart => exact ⟨0, noV, sv0, Nat.zero_le _, rfl, HK.out, LdA.nil⟩
    case round =>
      obtain ⟨i, va, sa, him, rfl, HI⟩ := hrel
      clear HK
      by_cases hi : i < m
      · have hil : i < l2.length := by omega
        have hiI : (i : Int) < (m : Int) := by omega
        obtain ⟨bf, of, hixf, hbf, hcf⟩ := HM.out.1.at hil
        have HT : Hid (l2.take (i + 1) = l2.take i ++ [l2[i]]) := List.take_succ_eq_append_getElem hil
        have HFC : Hid (∀ W : World, Below w.heap.size w W → F9 W bf of l2[i]) := hcf
        have HWF : Hid (WfF l2[i]) := HM.out.2 _ (List.getElem_mem _)
        clear hcf
        generalize l2[i] = f at HT HFC HWF
        have hbfr : bf < wr.heap.size := Nat.lt_of_lt_of_le hbf HI.out.1.below.size
        have hpr : p4 < wr.heap.size := HI.out.1.ba.lt
        have hpr1 : p4 + 1 < wr.heap.size := HI.out.1.bb.lt
        have hne1 : p4 ≠ wr.heap.size := by omega
        have hne2 : bf ≠ wr.heap.size := by omega
        have hne3 : wr.heap.size ≠ p4 := by omega
        have hne4 : wr.heap.size ≠ bf := by omega
        have hne5 : p4 ≠ wr.heap.size + 1 := by omega
        have hne6 : bf ≠ wr.heap.size + 1 := by omega
        have hne7 : wr.heap.size + 1 ≠ p4 := by omega
        have hne8 : wr.heap.size + 1 ≠ bf := by omega
        have hne9 : p4 ≠ wr.heap.size := by omega
        have hne10 : wr.heap.size ≠ p4 := by omega
        obtain ⟨r, u, hru⟩ : ∃ (r : Nat) (u : PV), applyV va (oneE f) = (r, u) := ⟨_, _, rfl⟩
        have HR : Hid (applyV va (oneE f) = (r, u)) := hru
        have HAP : Hid (∀ (V : World) (q : Nat), Below wr.heap.size wr V → FlAt V (some ⟨q, 0, none⟩) 1 1 [f] → Calls Try.prog 11 #[.agg #[.slice (sa.a 0) (va 0).length (sa.c 0), .slice (sa.a 1) (va 1).length (sa.c 1), .slice (sa.a 2) (va 2).length (sa.c 2), .slice (sa.a 3) (va 3).length (sa.c 3)], .agg #[.int .u64 0, .int .u64 0, .int .u64 0, .slice none 0 0, .slice (some ⟨q, 0, none⟩) 1 1]] V fun e w' => ∃ t : SV, e = .returned (.tuple #[.agg #[.slice (t.a 0) (u 0).length (t.c 0), .slice (t.a 1) (u 1).length (t.c 1), .slice (t.a 2) (u 2).length (t.c 2), .slice (t.a 3) (u 3).length (t.c 3)], .int .i64 ((r : Nat) : Int)]) ∧ Hid (OwnV w' V.heap.size u t) ∧ Below V.heap.size V w') := fun V q hV hq => by
          have h0 := vapply_any va sa (oneE f) ⟨none, 0, some ⟨q, 0, none⟩, 1⟩ V (HI.out.1.oa.at.below hV) ⟨GsAt.nil _, hq⟩ HI.out.2.wf (wf_one HWF.out) (by rw [HI.out.2.len, List.length_take]; omega)
          rw [HR.out] at h0
          exact h0
        clear hru
        have HC : Hid (∀ V : World, Below wr.heap.size wr V → V.cell? ⟨p4, 0, none⟩ = some (.slice (sa.a 0) (va 0).length (sa.c 0)) ∧ V.cell? ⟨p4, 1, none⟩ = some (.slice (sa.a 1) (va 1).length (sa.c 1)) ∧ V.cell? ⟨p4, 2, none⟩ = some (.slice (sa.a 2) (va 2).length (sa.c 2)) ∧ V.cell? ⟨p4, 3, none⟩ = some (.slice (sa.a 3) (va 3).length (sa.c 3)) ∧ V.cell? ⟨bf, of, none⟩ = some (.int .i64 f.level) ∧ V.cell? ⟨bf, of + 1, none⟩ = some (.int .u64 (f.num : Int)) ∧ V.cell? ⟨bf, of + 2, none⟩ = some (.int .i64 f.size) ∧ V.cell? ⟨bf, of + 3, none⟩ = some (.string f.small.user) ∧ V.cell? ⟨bf, of + 4, none⟩ = some (.int .u64 (f.small.seq : Int)) ∧ V.cell? ⟨bf, of + 5, none⟩ = some (.int .i64 f.small.kind) ∧ V.cell? ⟨bf, of + 6, none⟩ = some (.string f.large.user) ∧ V.cell? ⟨bf, of + 7, none⟩ = some (.int .u64 (f.large.seq : Int)) ∧ V.cell? ⟨bf, of + 8, none⟩ = some (.int .i64 f.large.kind)) := fun V hV => by
          have h5 := HFC.out V (HI.out.1.below.trans (hV.mono HI.out.1.below.size))
          have h6 := (HI.out.1.ba.kept (hV.block _ HI.out.1.ba.lt)).fourV
          exact ⟨h6.1, h6.2.1, h6.2.2.1, h6.2.2.2, h5.c0, h5.c1, h5.c2, h5.c3, h5.c4, h5.c5, h5.c6, h5.c7, h5.c8⟩
        go_upto_region 9 with fail
        go_cut [7, 8] (fun s7 s8 wz => ∃ (p7 : Nat) (t : SV), s7 = at_ p7 ∧ s8 = .int .i64 ((r : Nat) : Int) ∧ Hid (Ow wr p7 u t wz))
        case first =>
          have HD0 : Hid (Below wr.heap.size wr wr.drew) := (Below.refl _ _).drew
          have HDF : Hid (Below wr.heap.size wr (wr.alloc (.cells #[.int .i64 f.level, .int .u64 (f.num : Int), .int .i64 f.size, .string f.small.user, .int .u64 (f.small.seq : Int), .int .i64 f.small.kind, .string f.large.user, .int .u64 (f.large.seq : Int), .int .i64 f.large.kind] TF)).drew) := ((Below.refl _ _).alloc (Nat.le_refl _) _).drew
          have HDV : Hid (Below wr.heap.size wr (wr.alloc (.cells #[.slice none 0 0, .slice none 0 0, .slice none 0 0, .slice none 0 0] TVn)).drew) := ((Below.refl _ _).alloc (Nat.le_refl _) _).drew
          have HVF : Hid (Below wr.heap.size wr ((wr.alloc (.cells #[.slice none 0 0, .slice none 0 0, .slice none 0 0, .slice none 0 0] TVn)).alloc (.cells #[.int .i64 f.level, .int .u64 (f.num : Int), .int .i64 f.size, .string f.small.user, .int .u64 (f.small.seq : Int), .int .i64 f.small.kind, .string f.large.user, .int .u64 (f.large.seq : Int), .int .i64 f.large.kind] TF)).drew) := (((Below.refl _ _).alloc (Nat.le_refl _) _).alloc (by simp) _).drew
          have HFV : Hid (Below wr.heap.size wr ((wr.alloc (.cells #[.int .i64 f.level, .int .u64 (f.num : Int), .int .i64 f.size, .string f.small.user, .int .u64 (f.small.seq : Int), .int .i64 f.small.kind, .string f.large.user, .int .u64 (f.large.seq : Int), .int .i64 f.large.kind] TF)).alloc (.cells #[.slice none 0 0, .slice none 0 0, .slice none 0 0, .slice none 0 0] TVn)).drew) := (((Below.refl _ _).alloc (Nat.le_refl _) _).alloc (by simp) _).drew
          have HG1 : Hid (FlAt (wr.alloc (.cells #[.int .i64 f.level, .int .u64 (f.num : Int), .int .i64 f.size, .string f.small.user, .int .u64 (f.small.seq : Int), .int .i64 f.small.kind, .string f.large.user, .int .u64 (f.large.seq : Int), .int .i64 f.large.kind] TF)).drew (some ⟨wr.heap.size, 0, none⟩) 1 1 [f]) := (FlAt.one wr f).below (Below.refl _ _).drew
          have HG2 : Hid (FlAt ((wr.alloc (.cells #[.int .i64 f.level, .int .u64 (f.num : Int), .int .i64 f.size, .string f.small.user, .int .u64 (f.small.seq : Int), .int .i64 f.small.kind, .string f.large.user, .int .u64 (f.large.seq : Int), .int .i64 f.large.kind] TF)).alloc (.cells #[.slice none 0 0, .slice none 0 0, .slice none 0 0, .slice none 0 0] TVn)).drew (some ⟨wr.heap.size, 0, none⟩) 1 1 [f]) := (FlAt.one wr f).below ((Below.refl _ _).alloc (Nat.le_refl _) _).drew
          have HG3 : Hid (FlAt ((wr.alloc (.cells #[.slice none 0 0, .slice none 0 0, .slice none 0 0, .slice none 0 0] TVn)).alloc (.cells #[.int .i64 f.level, .int .u64 (f.num : Int), .int .i64 f.size, .string f.small.user, .int .u64 (f.small.seq : Int), .int .i64 f.small.kind, .string f.large.user, .int .u64 (f.large.seq : Int), .int .i64 f.large.kind] TF)).drew (some ⟨wr.heap.size + 1, 0, none⟩) 1 1 [f]) := by
            have h9 := (FlAt.one (wr.alloc (.cells #[.slice none 0 0, .slice none 0 0, .slice none 0 0, .slice none 0 0] TVn)) f).below (Below.refl _ _).drew
            rw [show (wr.alloc (.cells #[.slice none 0 0, .slice none 0 0, .slice none 0 0, .slice none 0 0] TVn)).heap.size = wr.heap.size + 1 by simp] at h9
            exact h9
          obtain ⟨z0, z1, z2, z3, z4, z5, z6, z7, z8, z9, z10, z11, z12⟩ := HC.out _ HD0.out
          obtain ⟨y0, y1, y2, y3, y4, y5, y6, y7, y8, y9, y10, y11, y12⟩ := HC.out _ HDF.out
          obtain ⟨x0, x1, x2, x3, x4, x5, x6, x7, x8, x9, x10, x11, x12⟩ := HC.out _ HDV.out
          obtain ⟨u0, u1, u2, u3, u4, u5, u6, u7, u8, u9, u10, u11, u12⟩ := HC.out _ HVF.out
          obtain ⟨q0, q1, q2, q3, q4, q5, q6, q7, q8, q9, q10, q11, q12⟩ := HC.out _ HFV.out
          go_region_held3 (fun V => V.cell? ⟨p4, 0, none⟩ = some (.slice (sa.a 0) (va 0).length (sa.c 0)) ∧ V.cell? ⟨p4, 1, none⟩ = some (.slice (sa.a 1) (va 1).length (sa.c 1)) ∧ V.cell? ⟨p4, 2, none⟩ = some (.slice (sa.a 2) (va 2).length (sa.c 2)) ∧ V.cell? ⟨p4, 3, none⟩ = some (.slice (sa.a 3) (va 3).length (sa.c 3)) ∧ V.cell? ⟨bf, of, none⟩ = some (.int .i64 f.level) ∧ V.cell? ⟨bf, of + 1, none⟩ = some (.int .u64 (f.num : Int)) ∧ V.cell? ⟨bf, of + 2, none⟩ = some (.int .i64 f.size) ∧ V.cell? ⟨bf, of + 3, none⟩ = some (.string f.small.user) ∧ V.cell? ⟨bf, of + 4, none⟩ = some (.int .u64 (f.small.seq : Int)) ∧ V.cell? ⟨bf, of + 5, none⟩ = some (.int .i64 f.small.kind) ∧ V.cell? ⟨bf, of + 6, none⟩ = some (.string f.large.user) ∧ V.cell? ⟨bf, of + 7, none⟩ = some (.int .u64 (f.large.seq : Int)) ∧ V.cell? ⟨bf, of + 8, none⟩ = some (.int .i64 f.large.kind)) (first | with_reducible exact ⟨z0, z1, z2, z3, z4, z5, z6, z7, z8, z9, z10, z11, z12⟩ | with_reducible exact ⟨y0, y1, y2, y3, y4, y5, y6, y7, y8, y9, y10, y11, y12⟩ | with_reducible exact ⟨x0, x1, x2, x3, x4, x5, x6, x7, x8, x9, x10, x11, x12⟩ | with_reducible exact ⟨u0, u1, u2, u3, u4, u5, u6, u7, u8, u9, u10, u11, u12⟩ | with_reducible exact ⟨q0, q1, q2, q3, q4, q5, q6, q7, q8, q9, q10, q11, q12⟩ | go_keep)
            (first
              | (go_at_call 11; (with_reducible refine (HAP.out _ _ HDF.out HG1.out).mono ?_); rintro _ vx ⟨t, rfl, HO, hvx⟩; have HY : Hid (Below wr.heap.size wr vx) := HDF.out.trans (hvx.mono (by simp)); have hge : wr.heap.size + 1 ≤ vx.heap.size := (by have := hvx.size; simp at this; omega); have hn1 : p4 ≠ vx.heap.size := (by omega); have hn2 : bf ≠ vx.heap.size := (by omega); clear hvx z0 z1 z2 z3 z4 z5 z6 z7 z8 z9 z10 z11 z12; obtain ⟨z0, z1, z2, z3, z4, z5, z6, z7, z8, z9, z10, z11, z12⟩ := HC.out _ HY.out)
              | (go_at_call 11; (with_reducible refine (HAP.out _ _ HVF.out HG3.out).mono ?_); rintro _ vx ⟨t, rfl, HO, hvx⟩; have HY : Hid (Below wr.heap.size wr vx) := HVF.out.trans (hvx.mono (by simp; omega)); have KB : Hid (Box vx wr.heap.size TVn #[.slice none 0 0, .slice none 0 0, .slice none 0 0, .slice none 0 0]) := (by have h9 : Box ((wr.alloc (.cells #[.slice none 0 0, .slice none 0 0, .slice none 0 0, .slice none 0 0] TVn)).alloc (.cells #[.int .i64 f.level, .int .u64 (f.num : Int), .int .i64 f.size, .string f.small.user, .int .u64 (f.small.seq : Int), .int .i64 f.small.kind, .string f.large.user, .int .u64 (f.large.seq : Int), .int .i64 f.large.kind] TF)).drew wr.heap.size TVn #[.slice none 0 0, .slice none 0 0, .slice none 0 0, .slice none 0 0] := (Box.new wr TVn #[.slice none 0 0, .slice none 0 0, .slice none 0 0, .slice none 0 0]).alloc _; exact h9.kept (hvx.block _ h9.lt)); have k0 := KB.out.cell 0; have k1 := KB.out.cell 1; have k2 := KB.out.cell 2; have k3 := KB.out.cell 3; have ks := KB.out.soft; clear hvx z0 z1 z2 z3 z4 z5 z6 z7 z8 z9 z10 z11 z12; obtain ⟨z0, z1, z2, z3, z4, z5, z6, z7, z8, z9, z10, z11, z12⟩ := HC.out _ HY.out)
              | (go_at_call 11; (with_reducible refine (HAP.out _ _ HFV.out HG2.out).mono ?_); rintro _ vx ⟨t, rfl, HO, hvx⟩; have HY : Hid (Below wr.heap.size wr vx) := HFV.out.trans (hvx.mono (by simp; omega)); have KB : Hid (Box vx (wr.heap.size + 1) TVn #[.slice none 0 0, .slice none 0 0, .slice none 0 0, .slice none 0 0]) := (by have h9 := Box.new (wr.alloc (.cells #[.int .i64 f.level, .int .u64 (f.num : Int), .int .i64 f.size, .string f.small.user, .int .u64 (f.small.seq : Int), .int .i64 f.small.kind, .string f.large.user, .int .u64 (f.large.seq : Int), .int .i64 f.large.kind] TF)) TVn #[.slice none 0 0, .slice none 0 0, .slice none 0 0, .slice none 0 0]; rw [show (wr.alloc (.cells #[.int .i64 f.level, .int .u64 (f.num : Int), .int .i64 f.size, .string f.small.user, .int .u64 (f.small.seq : Int), .int .i64 f.small.kind, .string f.large.user, .int .u64 (f.large.seq : Int), .int .i64 f.large.kind] TF)).heap.size = wr.heap.size + 1 by simp] at h9; exact h9.kept (hvx.block _ h9.lt)); have k0 := KB.out.cell 0; have k1 := KB.out.cell 1; have k2 := KB.out.cell 2; have k3 := KB.out.cell 3; have ks := KB.out.soft; clear hvx z0 z1 z2 z3 z4 z5 z6 z7 z8 z9 z10 z11 z12; obtain ⟨z0, z1, z2, z3, z4, z5, z6, z7, z8, z9, z10, z11, z12⟩ := HC.out _ HY.out))
          all_goals go_wp2_with fail
          all_goals go_meet
          all_goals first
            | exact ⟨_, t, rfl, rfl, Ow.new HY.out HO.out (by simp)⟩
            | exact ⟨_, t, rfl, rfl, Ow.set HY.out HO.out (by simp <;> omega) (Nat.le_refl _) KB.out⟩
            | exact ⟨_, t, rfl, rfl, Ow.set HY.out HO.out (by simp <;> omega) (Nat.le_succ _) KB.out⟩
        case rest =>
          obtain ⟨p7, t, rfl, rfl, HO⟩ := hcut
          clear HAP HC
          have H2 : Hid (Or w p4 va sa noV sv0 wc) := HI.out.1.later HO.out.below
          by_cases hr0 : r = 0
          · subst hr0
            have HL : Hid (LdA (l2.take (i + 1)) u) := by
              unfold Hid
              rw [HT.out]
              exact HI.out.2.snoc HR.out HWF.out
            obtain ⟨c0, c1, c2, c3⟩ := HO.out.box.fourV
            obtain ⟨e0, e1, e2, e3⟩ := H2.out.ba.fourV
            have es := H2.out.ba.soft
            have H3 := H2.out.setA (t := t) (u := u) (fun n hn => (HO.out.own n hn).less (by omega))
            have H4 : Hid (Or w p4 u t noV sv0 _) := H3
            clear H3
            go_wp2
            go_roundw
            case rel => exact ⟨i + 1, u, t, hi, by go_num, H4.out, HL.out⟩
            case measure => simp only [intOf]; omega
          · have hrb : ((r : Nat) : Int) ≠ 0 := by omega
            clear HR HO
            go_wp2
            go_ret
            exact ⟨rfl, H2.out.below⟩
      · have hiI : ¬ (i : Int) < (m : Int) := by omega
        have HI2 : Hid (Or w p4 va sa noV sv0 wr ∧ LdA l2 va) := ⟨HI.out.1, by have := HI.out.2; rwa [List.take_of_length_le (by omega)] at this⟩
        clear HI
        have hwm : IntKind.i64.wrap ((m : Int) - 1) = (m : Int) - 1 := by unfold IntKind.wrap; simp [IntKind.bits, IntKind.signed]; omega
        go_upto_region 13 with fail
        go_wp2_with fail
        go_loopw [9] (fun s9 wr => ∃ (k : Nat) (vb : PV) (sb : SV), k ≤ m ∧ s9 = .int .i64 ((k : Int) - 1) ∧ Hid (Or w p4 va sa vb sb wr ∧ LdA (l2.drop k) vb)) (fun s9 _ => (intOf s9 + 1).toNat)
        case atStart => exact ⟨m, noV, sv0, Nat.le_refl _, by go_num, HI2.out.1, by rw [List.drop_of_length_le (by omega)]; exact LdA.nil⟩
        case round =>
          obtain ⟨k0, vb, sb, hkm, rfl, HI⟩ := hrel
          have HLV : Hid (LdA l2 va) := HI2.out.2
          clear HI2 hwm
          by_cases hk0 : 0 < k0
          · obtain ⟨k, rfl⟩ : ∃ k, k0 = k + 1 := ⟨k0 - 1, by omega⟩
            have hkl : k < l2.length := by omega
            rw [show (((k + 1 : Nat) : Int) - 1) = (k : Int) by omega]
            have hkI : (0 : Int) ≤ (k : Int) := by omega
            obtain ⟨bf, of, hixf, hbf, hcf⟩ := HM.out.1.at hkl
            have HT : Hid (l2.drop k = l2[k] :: l2.drop (k + 1)) := List.drop_eq_getElem_cons hkl
            have HFC : Hid (∀ W : World, Below w.heap.size w W → F9 W bf of l2[k]) := hcf
            have HWF : Hid (WfF l2[k]) := HM.out.2 _ (List.getElem_mem _)
            clear hcf
            generalize l2[k] = f at HT HFC HWF
            have hbfr : bf < wr.heap.size := Nat.lt_of_lt_of_le hbf HI.out.1.below.size
            have hpr : p4 < wr.heap.size := HI.out.1.ba.lt
            have hpr1 : p4 + 1 < wr.heap.size := HI.out.1.bb.lt
            have hne1 : (p4 + 1) ≠ wr.heap.size := by omega
            have hne2 : bf ≠ wr.heap.size := by omega
            have hne3 : wr.heap.size ≠ (p4 + 1) := by omega
            have hne4 : wr.heap.size ≠ bf := by omega
            have hne5 : (p4 + 1) ≠ wr.heap.size + 1 := by omega
            have hne6 : bf ≠ wr.heap.size + 1 := by omega
            have hne7 : wr.heap.size + 1 ≠ (p4 + 1) := by omega
            have hne8 : wr.heap.size + 1 ≠ bf := by omega
            have hne9 : p4 ≠ wr.heap.size := by omega
            have hne10 : wr.heap.size ≠ p4 := by omega
            obtain ⟨r, u, hru⟩ : ∃ (r : Nat) (u : PV), applyV vb (oneE f) = (r, u) := ⟨_, _, rfl⟩
            have HR : Hid (applyV vb (oneE f) = (r, u)) := hru
            have HAP : Hid (∀ (V : World) (q : Nat), Below wr.heap.size wr V → FlAt V (some ⟨q, 0, none⟩) 1 1 [f] → Calls Try.prog 11 #[.agg #[.slice (sb.a 0) (vb 0).length (sb.c 0), .slice (sb.a 1) (vb 1).length (sb.c 1), .slice (sb.a 2) (vb 2).length (sb.c 2), .slice (sb.a 3) (vb 3).length (sb.c 3)], .agg #[.int .u64 0, .int .u64 0, .int .u64 0, .slice none 0 0, .slice (some ⟨q, 0, none⟩) 1 1]] V fun e w' => ∃ t : SV, e = .returned (.tuple #[.agg #[.slice (t.a 0) (u 0).length (t.c 0), .slice (t.a 1) (u 1).length (t.c 1), .slice (t.a 2) (u 2).length (t.c 2), .slice (t.a 3) (u 3).length (t.c 3)], .int .i64 ((r : Nat) : Int)]) ∧ Hid (OwnV w' V.heap.size u t) ∧ Below V.heap.size V w') := fun V q hV hq => by
              have h0 := vapply_any vb sb (oneE f) ⟨none, 0, some ⟨q, 0, none⟩, 1⟩ V (HI.out.1.ob.at.below hV) ⟨GsAt.nil _, hq⟩ HI.out.2.wf (wf_one HWF.out) (by rw [HI.out.2.len, List.length_drop]; omega)
              rw [HR.out] at h0
              exact h0
            clear hru
            have HC : Hid (∀ V : World, Below wr.heap.size wr V → V.cell? ⟨p4 + 1, 0, none⟩ = some (.slice (sb.a 0) (vb 0).length (sb.c 0)) ∧ V.cell? ⟨p4 + 1, 1, none⟩ = some (.slice (sb.a 1) (vb 1).length (sb.c 1)) ∧ V.cell? ⟨p4 + 1, 2, none⟩ = some (.slice (sb.a 2) (vb 2).length (sb.c 2)) ∧ V.cell? ⟨p4 + 1, 3, none⟩ = some (.slice (sb.a 3) (vb 3).length (sb.c 3)) ∧ V.cell? ⟨bf, of, none⟩ = some (.int .i64 f.level) ∧ V.cell? ⟨bf, of + 1, none⟩ = some (.int .u64 (f.num : Int)) ∧ V.cell? ⟨bf, of + 2, none⟩ = some (.int .i64 f.size) ∧ V.cell? ⟨bf, of + 3, none⟩ = some (.string f.small.user) ∧ V.cell? ⟨bf, of + 4, none⟩ = some (.int .u64 (f.small.seq : Int)) ∧ V.cell? ⟨bf, of + 5, none⟩ = some (.int .i64 f.small.kind) ∧ V.cell? ⟨bf, of + 6, none⟩ = some (.string f.large.user) ∧ V.cell? ⟨bf, of + 7, none⟩ = some (.int .u64 (f.large.seq : Int)) ∧ V.cell? ⟨bf, of + 8, none⟩ = some (.int .i64 f.large.kind)) := fun V hV => by
              have h5 := HFC.out V (HI.out.1.below.trans (hV.mono HI.out.1.below.size))
              have h6 := (HI.out.1.bb.kept (hV.block _ HI.out.1.bb.lt)).fourV
              exact ⟨h6.1, h6.2.1, h6.2.2.1, h6.2.2.2, h5.c0, h5.c1, h5.c2, h5.c3, h5.c4, h5.c5, h5.c6, h5.c7, h5.c8⟩
            have HCN := HI.out.2.cons (f := f) (by rw [← HT.out]; exact HLV.out.pw.sublist (List.drop_sublist _ _)) (HLV.out.err f (by have : f ∈ l2.drop k := (by rw [HT.out]; simp); exact List.mem_of_mem_drop this)) HWF.out
            obtain ⟨u', hu', hl'⟩ := HCN
            rw [HR.out] at hu'
            obtain ⟨rfl, rfl⟩ : r = 0 ∧ u = u' := by simpa using hu'
            have HL : Hid (LdA (l2.drop k) u) := by unfold Hid; rw [HT.out]; exact hl'
            clear hu' hl'
            go_upto_region 16 with fail
            go_cut [10, 11] (fun s10 s11 wz => ∃ (p7 : Nat) (t : SV), s10 = at_ p7 ∧ s11 = .int .i64 0 ∧ Hid (Ow wr p7 u t wz))
            case first =>
              have HD0 : Hid (Below wr.heap.size wr wr.drew) := (Below.refl _ _).drew
              have HDF : Hid (Below wr.heap.size wr (wr.alloc (.cells #[.int .i64 f.level, .int .u64 (f.num : Int), .int .i64 f.size, .string f.small.user, .int .u64 (f.small.seq : Int), .int .i64 f.small.kind, .string f.large.user, .int .u64 (f.large.seq : Int), .int .i64 f.large.kind] TF)).drew) := ((Below.refl _ _).alloc (Nat.le_refl _) _).drew
              have HDV : Hid (Below wr.heap.size wr (wr.alloc (.cells #[.slice none 0 0, .slice none 0 0, .slice none 0 0, .slice none 0 0] TVn)).drew) := ((Below.refl _ _).alloc (Nat.le_refl _) _).drew
              have HVF : Hid (Below wr.heap.size wr ((wr.alloc (.cells #[.slice none 0 0, .slice none 0 0, .slice none 0 0, .slice none 0 0] TVn)).alloc (.cells #[.int .i64 f.level, .int .u64 (f.num : Int), .int .i64 f.size, .string f.small.user, .int .u64 (f.small.seq : Int), .int .i64 f.small.kind, .string f.large.user, .int .u64 (f.large.seq : Int), .int .i64 f.large.kind] TF)).drew) := (((Below.refl _ _).alloc (Nat.le_refl _) _).alloc (by simp) _).drew
              have HFV : Hid (Below wr.heap.size wr ((wr.alloc (.cells #[.int .i64 f.level, .int .u64 (f.num : Int), .int .i64 f.size, .string f.small.user, .int .u64 (f.small.seq : Int), .int .i64 f.small.kind, .string f.large.user, .int .u64 (f.large.seq : Int), .int .i64 f.large.kind] TF)).alloc (.cells #[.slice none 0 0, .slice none 0 0, .slice none 0 0, .slice none 0 0] TVn)).drew) := (((Below.refl _ _).alloc (Nat.le_refl _) _).alloc (by simp) _).drew
              have HG1 : Hid (FlAt (wr.alloc (.cells #[.int .i64 f.level, .int .u64 (f.num : Int), .int .i64 f.size, .string f.small.user, .int .u64 (f.small.seq : Int), .int .i64 f.small.kind, .string f.large.user, .int .u64 (f.large.seq : Int), .int .i64 f.large.kind] TF)).drew (some ⟨wr.heap.size, 0, none⟩) 1 1 [f]) := (FlAt.one wr f).below (Below.refl _ _).drew
              have HG2 : Hid (FlAt ((wr.alloc (.cells #[.int .i64 f.level, .int .u64 (f.num : Int), .int .i64 f.size, .string f.small.user, .int .u64 (f.small.seq : Int), .int .i64 f.small.kind, .string f.large.user, .int .u64 (f.large.seq : Int), .int .i64 f.large.kind] TF)).alloc (.cells #[.slice none 0 0, .slice none 0 0, .slice none 0 0, .slice none 0 0] TVn)).drew (some ⟨wr.heap.size, 0, none⟩) 1 1 [f]) := (FlAt.one wr f).below ((Below.refl _ _).alloc (Nat.le_refl _) _).drew
              have HG3 : Hid (FlAt ((wr.alloc (.cells #[.slice none 0 0, .slice none 0 0, .slice none 0 0, .slice none 0 0] TVn)).alloc (.cells #[.int .i64 f.level, .int .u64 (f.num : Int), .int .i64 f.size, .string f.small.user, .int .u64 (f.small.seq : Int), .int .i64 f.small.kind, .string f.large.user, .int .u64 (f.large.seq : Int), .int .i64 f.large.kind] TF)).drew (some ⟨wr.heap.size + 1, 0, none⟩) 1 1 [f]) := by
                have h9 := (FlAt.one (wr.alloc (.cells #[.slice none 0 0, .slice none 0 0, .slice none 0 0, .slice none 0 0] TVn)) f).below (Below.refl _ _).drew
                rw [show (wr.alloc (.cells #[.slice none 0 0, .slice none 0 0, .slice none 0 0, .slice none 0 0] TVn)).heap.size = wr.heap.size + 1 by simp] at h9
                exact h9
              obtain ⟨z0, z1, z2, z3, z4, z5, z6, z7, z8, z9, z10, z11, z12⟩ := HC.out _ HD0.out
              obtain ⟨y0, y1, y2, y3, y4, y5, y6, y7, y8, y9, y10, y11, y12⟩ := HC.out _ HDF.out
              obtain ⟨x0, x1, x2, x3, x4, x5, x6, x7, x8, x9, x10, x11, x12⟩ := HC.out _ HDV.out
              obtain ⟨u0, u1, u2, u3, u4, u5, u6, u7, u8, u9, u10, u11, u12⟩ := HC.out _ HVF.out
              obtain ⟨q0, q1, q2, q3, q4, q5, q6, q7, q8, q9, q10, q11, q12⟩ := HC.out _ HFV.out
              go_region_held3 (fun V => V.cell? ⟨p4 + 1, 0, none⟩ = some (.slice (sb.a 0) (vb 0).length (sb.c 0)) ∧ V.cell? ⟨p4 + 1, 1, none⟩ = some (.slice (sb.a 1) (vb 1).length (sb.c 1)) ∧ V.cell? ⟨p4 + 1, 2, none⟩ = some (.slice (sb.a 2) (vb 2).length (sb.c 2)) ∧ V.cell? ⟨p4 + 1, 3, none⟩ = some (.slice (sb.a 3) (vb 3).length (sb.c 3)) ∧ V.cell? ⟨bf, of, none⟩ = some (.int .i64 f.level) ∧ V.cell? ⟨bf, of + 1, none⟩ = some (.int .u64 (f.num : Int)) ∧ V.cell? ⟨bf, of + 2, none⟩ = some (.int .i64 f.size) ∧ V.cell? ⟨bf, of + 3, none⟩ = some (.string f.small.user) ∧ V.cell? ⟨bf, of + 4, none⟩ = some (.int .u64 (f.small.seq : Int)) ∧ V.cell? ⟨bf, of + 5, none⟩ = some (.int .i64 f.small.kind) ∧ V.cell? ⟨bf, of + 6, none⟩ = some (.string f.large.user) ∧ V.cell? ⟨bf, of + 7, none⟩ = some (.int .u64 (f.large.seq : Int)) ∧ V.cell? ⟨bf, of + 8, none⟩ = some (.int .i64 f.large.kind)) (first | with_reducible exact ⟨z0, z1, z2, z3, z4, z5, z6, z7, z8, z9, z10, z11, z12⟩ | with_reducible exact ⟨y0, y1, y2, y3, y4, y5, y6, y7, y8, y9, y10, y11, y12⟩ | with_reducible exact ⟨x0, x1, x2, x3, x4, x5, x6, x7, x8, x9, x10, x11, x12⟩ | with_reducible exact ⟨u0, u1, u2, u3, u4, u5, u6, u7, u8, u9, u10, u11, u12⟩ | with_reducible exact ⟨q0, q1, q2, q3, q4, q5, q6, q7, q8, q9, q10, q11, q12⟩ | go_keep)
                (first
                  | (go_at_call 11; (with_reducible refine (HAP.out _ _ HDF.out HG1.out).mono ?_); rintro _ vx ⟨t, rfl, HO, hvx⟩; have HY : Hid (Below wr.heap.size wr vx) := HDF.out.trans (hvx.mono (by simp)); have hge : wr.heap.size + 1 ≤ vx.heap.size := (by have := hvx.size; simp at this; omega); have hn1 : (p4 + 1) ≠ vx.heap.size := (by omega); have hn2 : bf ≠ vx.heap.size := (by omega); clear hvx z0 z1 z2 z3 z4 z5 z6 z7 z8 z9 z10 z11 z12; obtain ⟨z0, z1, z2, z3, z4, z5, z6, z7, z8, z9, z10, z11, z12⟩ := HC.out _ HY.out)
                  | (go_at_call 11; (with_reducible refine (HAP.out _ _ HVF.out HG3.out).mono ?_); rintro _ vx ⟨t, rfl, HO, hvx⟩; have HY : Hid (Below wr.heap.size wr vx) := HVF.out.trans (hvx.mono (by simp; omega)); have KB : Hid (Box vx wr.heap.size TVn #[.slice none 0 0, .slice none 0 0, .slice none 0 0, .slice none 0 0]) := (by have h9 : Box ((wr.alloc (.cells #[.slice none 0 0, .slice none 0 0, .slice none 0 0, .slice none 0 0] TVn)).alloc (.cells #[.int .i64 f.level, .int .u64 (f.num : Int), .int .i64 f.size, .string f.small.user, .int .u64 (f.small.seq : Int), .int .i64 f.small.kind, .string f.large.user, .int .u64 (f.large.seq : Int), .int .i64 f.large.kind] TF)).drew wr.heap.size TVn #[.slice none 0 0, .slice none 0 0, .slice none 0 0, .slice none 0 0] := (Box.new wr TVn #[.slice none 0 0, .slice none 0 0, .slice none 0 0, .slice none 0 0]).alloc _; exact h9.kept (hvx.block _ h9.lt)); have k0 := KB.out.cell 0; have k1 := KB.out.cell 1; have k2 := KB.out.cell 2; have k3 := KB.out.cell 3; have ks := KB.out.soft; clear hvx z0 z1 z2 z3 z4 z5 z6 z7 z8 z9 z10 z11 z12; obtain ⟨z0, z1, z2, z3, z4, z5, z6, z7, z8, z9, z10, z11, z12⟩ := HC.out _ HY.out)
                  | (go_at_call 11; (with_reducible refine (HAP.out _ _ HFV.out HG2.out).mono ?_); rintro _ vx ⟨t, rfl, HO, hvx⟩; have HY : Hid (Below wr.heap.size wr vx) := HFV.out.trans (hvx.mono (by simp; omega)); have KB : Hid (Box vx (wr.heap.size + 1) TVn #[.slice none 0 0, .slice none 0 0, .slice none 0 0, .slice none 0 0]) := (by have h9 := Box.new (wr.alloc (.cells #[.int .i64 f.level, .int .u64 (f.num : Int), .int .i64 f.size, .string f.small.user, .int .u64 (f.small.seq : Int), .int .i64 f.small.kind, .string f.large.user, .int .u64 (f.large.seq : Int), .int .i64 f.large.kind] TF)) TVn #[.slice none 0 0, .slice none 0 0, .slice none 0 0, .slice none 0 0]; rw [show (wr.alloc (.cells #[.int .i64 f.level, .int .u64 (f.num : Int), .int .i64 f.size, .string f.small.user, .int .u64 (f.small.seq : Int), .int .i64 f.small.kind, .string f.large.user, .int .u64 (f.large.seq : Int), .int .i64 f.large.kind] TF)).heap.size = wr.heap.size + 1 by simp] at h9; exact h9.kept (hvx.block _ h9.lt)); have k0 := KB.out.cell 0; have k1 := KB.out.cell 1; have k2 := KB.out.cell 2; have k3 := KB.out.cell 3; have ks := KB.out.soft; clear hvx z0 z1 z2 z3 z4 z5 z6 z7 z8 z9 z10 z11 z12; obtain ⟨z0, z1, z2, z3, z4, z5, z6, z7, z8, z9, z10, z11, z12⟩ := HC.out _ HY.out))
              all_goals go_wp2_with fail
              all_goals go_meet
              all_goals first
                | exact ⟨_, t, rfl, rfl, Ow.new HY.out HO.out (by simp)⟩
                | exact ⟨_, t, rfl, rfl, Ow.set HY.out HO.out (by simp <;> omega) (Nat.le_refl _) KB.out⟩
                | exact ⟨_, t, rfl, rfl, Ow.set HY.out HO.out (by simp <;> omega) (Nat.le_succ _) KB.out⟩
            case rest =>
              obtain ⟨p7, t, rfl, rfl, HO⟩ := hcut
              clear HAP HC
              have H2 : Hid (Or w p4 va sa vb sb wc) := HI.out.1.later HO.out.below
              obtain ⟨c0, c1, c2, c3⟩ := HO.out.box.fourV
              obtain ⟨e0, e1, e2, e3⟩ := H2.out.bb.fourV
              have es := H2.out.bb.soft
              have H3 := H2.out.setB (t := t) (u := u) (fun n hn => (HO.out.own n hn).less (by omega))
              have H4 : Hid (Or w p4 va sa u t _) := H3
              clear H3
              go_wp2
              go_roundw
              case rel => exact ⟨k, u, t, by omega, by go_num, H4.out, HL.out⟩
              case measure => simp only [intOf]; omega
          · obtain rfl : k0 = 0 := by omega
            have hkI : ¬ (0 : Int) ≤ (((0 : Nat) : Int) - 1) := by omega
            have HI3 : Hid (Or w p4 va sa vb sb wr ∧ LdA l2 vb) := ⟨HI.out.1, by have := HI.out.2; rwa [List.drop_zero] at this⟩
            obtain ⟨u, hu, HL0⟩ := HLV.out.whole (by omega) HM.out.2
            have HL : Hid (LdA l2 u) := HL0
            clear HI HL0
            have hap := vapply_any noV sv0 ⟨0, 0, 0, [], l2⟩ ⟨none, 0, a, c⟩ wr (OwnV.none wr 0).at ⟨GsAt.nil _, by rw [hlm]; exact HM.out.1.below HI3.out.1.below⟩ wfV_no HM.out.2 (by simp [PV.all, noV])
            rw [hu] at hap
            simp only [hlm] at hap
            clear hu
            go_upto_region 20 with fail
            go_wp2_with fail
            refine hap.mono ?_
            rintro _ w5 ⟨t, rfl, ho5, hb5⟩
            have H5 : Hid (Or w p4 va sa vb sb w5 ∧ VnAt w5 u t) := ⟨HI3.out.1.later hb5, ho5.at⟩
            clear ho5 hb5 hap
            obtain ⟨W6, e6, H6⟩ : ∃ W6, W6 = w5.alloc (.cells #[.slice (t.a 0) (u 0).length (t.c 0), .slice (t.a 1) (u 1).length (t.c 1), .slice (t.a 2) (u 2).length (t.c 2), .slice (t.a 3) (u 3).length (t.c 3)] TVn) ∧ Hid (Or w p4 va sa vb sb W6 ∧ VnAt W6 u t ∧ Box W6 w5.heap.size TVn (vA u t)) := by
              have hb : Below w5.heap.size w5 (w5.alloc (.cells (vA u t) TVn)) := (Below.refl _ _).alloc (Nat.le_refl _) _
              exact ⟨_, rfl, H5.out.1.later hb, H5.out.2.below hb, Box.new _ _ _⟩
            go_upto_region 21 with fail
            rw [← e6]
            generalize w5.heap.size = p12 at H6 ⊢
            clear e6 H5
            obtain ⟨c0, c1, c2, c3⟩ := H6.out.1.ba.fourV
            obtain ⟨e0, e1, e2, e3⟩ := H6.out.1.bb.fourV
            have hsm := vsame_eq H6.out.1.oa.at H6.out.1.ob.at (HLV.out.same HI3.out.2)
            go_wp2_with fail
            refine hsm.mono ?_
            rintro _ w7 ⟨rfl, hb7⟩
            have H7 : Hid (Or w p4 va sa vb sb w7 ∧ VnAt w7 u t ∧ Box w7 p12 TVn (vA u t)) := ⟨H6.out.1.later hb7, H6.out.2.1.below hb7, H6.out.2.2.kept (hb7.block _ H6.out.2.2.lt)⟩
            clear c0 c1 c2 c3 e0 e1 e2 e3 hsm hb7 H6
            obtain ⟨c0, c1, c2, c3⟩ := H7.out.1.ba.fourV
            obtain ⟨e0, e1, e2, e3⟩ := H7.out.2.2.fourV
            have hsm := vsame_eq H7.out.1.oa.at H7.out.2.1 (HLV.out.same HL.out)
            go_wp2_with fail
            refine hsm.mono ?_
            rintro _ w8 ⟨rfl, hb8⟩
            have H8 : Hid (Or w p4 va sa vb sb w8) := H7.out.1.later hb8
            clear c0 c1 c2 c3 e0 e1 e2 e3 hsm hb8 H7
            obtain ⟨c0, c1, c2, c3⟩ := H8.out.ba.fourV
            have hnm := nums_any va sa w8 H8.out.oa.at (by rw [HLV.out.len]; omega)
            go_wp2_with fail
            refine hnm.mono ?_
            rintro _ w9 ⟨an, nn, cn, ln, rfl, hon, hpn, _, hb9⟩
            have H9 : Hid (Below w.heap.size w w9) := H8.out.below.trans (hb9.mono H8.out.below.size)
            obtain rfl : nn = m := by
              have h1 := hon.size
              have h2 := hpn.length_eq
              have h3 := HLV.out.len
              rw [List.length_map] at h2
              omega
            clear hon hpn hb9 c0 c1 c2 c3 hnm
            go_wp2
            go_ret
            exact ⟨rfl, H9.out⟩
end Go.Proofs.Ytcdfgcjecmpjhaa
