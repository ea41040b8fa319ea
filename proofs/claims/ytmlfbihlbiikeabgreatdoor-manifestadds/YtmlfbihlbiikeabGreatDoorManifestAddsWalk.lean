/- The walk of ManifestAdds. -/
import Derived.Test.YtmlfbihlbiikeabGreatDoorQa49
import Derived.Test.YtmlfbihlbiikeabGreatDoorQa04
import Derived.Test.YtmlfbihlbiikeabGreatDoorQa42
import Derived.Deep.DeepCutAuto
namespace Go.Proofs.YtmlfbihlbiikeabGreatDoor
open Go.RowKit
set_option linter.unusedVariables false
set_option linter.unusedSimpArgs false
set_option maxRecDepth 100000
structure Ad (wa : World) (p q : Nat) (n : Nat) (L : List PE) (s : PSt) (t : SV) (k : Kn) (R : Nat → Prop) (W : World) : Prop where
  fw : Fw D0 wa p (pf (cr1 (manD 53) (manOf (sA0.eds ++ L))) k) R W
  sb : SB W R q s t
  fine : Fine k (12 + 3 * n)
  steps : stepsS sA0 L = some s
  errs : ∀ x ∈ L, x.err = 0
  len : L.length ≤ n
  man : (manOf (sA0.eds ++ L)).length ≤ 22000 + 27000 * n
  ok : s.Ok
  four : Four s.v
  num : s.num = 5
  few : s.v.all.length ≤ 100 * n
theorem Ad.more {wa : World} {p q n m : Nat} {L : List PE} {s : PSt} {t : SV} {k : Kn} {R R' : Nat → Prop} {W W' : World} (h : Ad wa p q n L s t k R W) (hf : Fw D0 wa p (pf (cr1 (manD 53) (manOf (sA0.eds ++ L))) k) R' W') (hn : Nx R R' W W') (hm : n ≤ m) : Ad wa p q m L s t k R' W' := by
  have h1 := h.len
  have h2 := h.man
  have h3 := h.few
  exact ⟨hf, h.sb.nx hn, ⟨h.fine.quiet, h.fine.quota, by have := h.fine.asked; omega⟩, h.steps, h.errs, by omega, by omega, h.ok, h.four, h.num, by omega⟩
set_option maxHeartbeats 16000000 in
theorem manifestAdds_walk (a0 : Option Addr) (n0 c0 : Nat) (l0 : List (PE × SE)) (w : World) (h0 : EsAt w a0 n0 c0 l0) (e0 : n0 * 72 ≤ 140737488351232) (hg : Gl w) (h6 : 6 ≤ w.heap.size) :
    Calls Tryz.prog 5 #[.slice a0 n0 c0] w fun e w' => e = .returned (.bool true) ∧ Below w.heap.size w w' := by
  have HA := awake_yes w hg h6
  have HARG : Hid (EsAt w a0 n0 c0 l0 ∧ Gl w ∧ 6 ≤ w.heap.size) := ⟨h0, hg, h6⟩
  have hln := h0.size
  clear h0 hg h6
  go_enter Tryz.func5, Tryz.ntmps5
  go_wp2_with fail
  refine HA.mono ?_
  rintro _ wa ⟨rfl, hba⟩
  have HRA : Hid (EsAt wa a0 n0 c0 l0 ∧ Gl wa ∧ 6 ≤ wa.heap.size ∧ Below w.heap.size w wa) := ⟨HARG.out.1.below hba, HARG.out.2.1.later hba, Nat.le_trans HARG.out.2.2 hba.size, hba⟩
  clear HA hba HARG
  have HN := fw_new fsOk 1048576 (by decide) HRA.out.2.1 HRA.out.2.2.1
  go_wp2_with fail
  refine HN.mono ?_
  rintro _ w1 ⟨p, R1, rfl, h1⟩
  obtain ⟨R2, h2, n2, b2⟩ := Fw.box fsOk h1 sA0 (VS.none _ _)
  have HWR := fw_write fsOk h2 sA0 sv0 (by decide) (VS.none _ R2).at zS_wf (by decide) (by decide)
  obtain ⟨k3, ek, hk3⟩ := write_new (s := sA0) sA0_chk (by rw [show nameP 3 sA0.num = manD 53 from name_5]; exact fresh_5) (Nat.le_trans sA0_len (by decide))
  rw [ek, show nameP 3 sA0.num = manD 53 from name_5] at HWR
  dsimp only at HWR
  have HB2 : Hid (SB (w1.alloc (.cells (sA sA0 sv0) TSt)) R2 w1.heap.size sA0 sv0 ∧ Fine k3 12) := ⟨b2, hk3⟩
  have HQ1 : Hid (wa.heap.size ≤ w1.heap.size) := h1.base.size
  clear HN h1 h2 n2 b2 ek hk3
  go_wp2_with fail
  refine HWR.mono ?_
  rintro _ w3 ⟨rfl, R3, h3, n3⟩
  have HI0 : Hid (Ad wa p w1.heap.size 0 [] sA0 sv0 k3 R3 w3) := by
    refine ⟨by rw [List.append_nil]; exact h3, HB2.out.1.nx n3, HB2.out.2, rfl, by simp, Nat.le_refl _, by rw [List.append_nil]; exact Nat.le_trans sA0_len (by decide), sA0_ok, four_no, rfl, by decide⟩
  clear HWR h3 n3 HB2
  have HQW : Hid (wa.heap.size ≤ w1.heap.size) := HQ1.out
  clear HQ1
  go_wp2_with fail
  generalize w1.heap.size = q at HI0 HQW ⊢
  go_loopw [7] (fun x7 wr => ∃ (i : Nat) (L : List PE) (s : PSt) (t : SV) (k : Kn) (R : Nat → Prop), i ≤ n0 ∧ i ≤ 10 ∧ x7 = .int .i64 (i : Int) ∧ Hid (Ad wa p q i L s t k R wr)) (fun x7 _ => 10 - (intOf x7).toNat)
  case atStart => exact ⟨0, _, _, _, _, _, Nat.zero_le _, Nat.zero_le _, rfl, HI0.out⟩
  case round =>
    obtain ⟨i, L, s, t, k, R, hi, hi10, rfl, HI⟩ := hrel
    clear HI0
    rcases Classical.em (¬ (i < n0)) with hin | hin
    · obtain rfl : i = n0 := by omega
      go_wp2
      try go_ret
      exact ⟨ret1 rfl, HRA.out.2.2.2.trans (HI.out.fw.base.mono HRA.out.2.2.2.size)⟩
    replace hin := Classical.not_not.1 hin
    rcases Classical.em (¬ (i < 10)) with hi9 | hi9
    · obtain rfl : i = 10 := by omega
      have hiI : ((10 : Nat) : Int) < (n0 : Int) := by omega
      go_wp2
      try go_ret
      exact ⟨ret1 rfl, HRA.out.2.2.2.trans (HI.out.fw.base.mono HRA.out.2.2.2.size)⟩
    replace hi9 := Classical.not_not.1 hi9
    have hiI : (i : Int) < (n0 : Int) := by omega
    have hi9I : (i : Int) < 10 := by omega
    have hil : i < l0.length := by omega
    obtain ⟨be, oe, hixe, hbe, hce⟩ := HRA.out.1.at hil
    have HXE : Hid (EdAt wa l0[i].1 l0[i].2 ∧ WfE l0[i].1 ∧ l0[i].1.dels.length * 16 ≤ 140737488351232) := ⟨(HRA.out.1.each _ (List.getElem_mem _)).1, (HRA.out.1.each _ (List.getElem_mem _)).2.1, (HRA.out.1.each _ (List.getElem_mem _)).2.2.1⟩
    have HE5 := hce wr HI.out.fw.base
    clear hce
    generalize l0[i] = xe at HXE HE5
    obtain ⟨x, se⟩ := xe
    dsimp only at HXE HE5
    obtain ⟨x0, x1, x2, x3, x4⟩ := HE5
    obtain ⟨Wx, eWx⟩ : ∃ Wx, Hid (Wx = wr.alloc (.cells #[.int .u64 (x.log : Int), .int .u64 (x.next : Int), .int .u64 (x.last : Int), .slice se.a x.dels.length se.c, .slice se.a' x.adds.length se.c'] TE)) := ⟨_, rfl⟩
    have HWX : Hid (Below wr.heap.size wr Wx ∧ Box Wx wr.heap.size TE (eA x se)) := by
      rw [eWx.out]
      exact ⟨(Below.refl _ _).alloc (Nat.le_refl _) _, Box.new _ _ _⟩
    obtain ⟨Rx, hRx, hRn, hfx⟩ := HI.out.fw.call fsOk HWX.out.1
    have HX1 : Hid (Ad wa p q i L s t k Rx Wx ∧ Box Wx wr.heap.size TE (eA x se) ∧ Rx wr.heap.size ∧ EdAt Wx x se) := ⟨HI.out.more hfx ⟨hRx, Kp.of HWX.out.1⟩ (Nat.le_refl _), HWX.out.2, hRn _ (Nat.le_refl _) HWX.out.2.lt, HXE.out.1.below hfx.base⟩
    obtain ⟨y0, y1, y2, y3, y4⟩ := HX1.out.2.1.five
    have HQX0 : Hid (q < wr.heap.size) := HI.out.sb.box.lt
    clear HI hRx hRn hfx HWX
    have HQX : Hid (q < wr.heap.size) := HQX0.out
    clear HQX0
    go_upto_region 12 with fail
    rw [← eWx.out]
    clear eWx x0 x1 x2 x3 x4
    generalize wr.heap.size = qx at HX1 HQX y0 y1 y2 y3 y4 ⊢
    have HEC := echeck_any x se Wx HX1.out.2.2.2 HXE.out.2.1
    rcases Classical.em (200 < x.dels.length) with h200 | h200
    · have h200I : (200 : Int) < (x.dels.length : Int) := by omega
      go_wp2
      go_roundw
      case rel => exact ⟨i + 1, L, s, t, k, Rx, hin, hi9, by go_num, HX1.out.1.more HX1.out.1.fw (Nx.refl _ _) (Nat.le_succ _)⟩
      case measure => simp only [intOf]; omega
    have h200I : ¬ (200 : Int) < (x.dels.length : Int) := by omega
    obtain ⟨er, her⟩ : ∃ er, x.err = er := ⟨_, rfl⟩
    rw [her] at HEC
    go_wp2_with fail
    refine HEC.mono ?_
    rintro _ w5 ⟨rfl, hb5⟩
    obtain ⟨R5, hR5, hRn5, hf5⟩ := HX1.out.1.fw.call fsOk hb5
    have HX5 : Hid (Ad wa p q i L s t k R5 w5 ∧ Box w5 qx TE (eA x se) ∧ R5 qx ∧ EdAt w5 x se) := ⟨HX1.out.1.more hf5 ⟨hR5, Kp.of hb5⟩ (Nat.le_refl _), HX1.out.2.1.kept (hb5.block _ HX1.out.2.1.lt), hR5 _ HX1.out.2.2.1, HXE.out.1.below hf5.base⟩
    clear HEC hb5 hR5 hRn5 hf5 HX1 y0 y1 y2 y3 y4
    rcases Classical.em (¬ (er = 0)) with he0 | he0
    · have heb : ((er : Int) != 0) = true := by simp; omega
      go_wp2
      go_roundw
      case rel => exact ⟨i + 1, L, s, t, k, R5, hin, hi9, by go_num, HX5.out.1.more HX5.out.1.fw (Nx.refl _ _) (Nat.le_succ _)⟩
      case measure => simp only [intOf]; omega
    replace he0 := Classical.not_not.1 he0
    subst he0
    have HAP := vapply_any s.v t x se w5 HX5.out.1.sb.vs.at HX5.out.2.2.2 HX5.out.1.sb.vs.wf HXE.out.2.1 (by have := HX5.out.1.few; omega)
    obtain ⟨ea, u, hau⟩ : ∃ (ea : Nat) (u : PV), applyV s.v x = (ea, u) := ⟨_, _, rfl⟩
    have HAU : Hid (applyV s.v x = (ea, u)) := hau
    rw [hau] at HAP
    dsimp only at HAP
    clear hau
    obtain ⟨c0, c1, c2, c3, c4, c5, c6, c7⟩ := HX5.out.1.sb.box.eight
    obtain ⟨y0, y1, y2, y3, y4⟩ := HX5.out.2.1.five
    go_wp2_with fail
    refine HAP.mono ?_
    rintro _ w6 ⟨tu, rfl, HO6, hb6⟩
    obtain ⟨W7, eW7⟩ : ∃ W7, Hid (W7 = w6.alloc (.cells #[.slice (tu.a 0) (u 0).length (tu.c 0), .slice (tu.a 1) (u 1).length (tu.c 1), .slice (tu.a 2) (u 2).length (tu.c 2), .slice (tu.a 3) (u 3).length (tu.c 3)] TVn)) := ⟨_, rfl⟩
    have HW7 : Hid (Below w6.heap.size w6 W7 ∧ Box W7 w6.heap.size TVn (vA u tu)) := by
      rw [eW7.out]
      exact ⟨(Below.refl _ _).alloc (Nat.le_refl _) _, Box.new _ _ _⟩
    have hb7 : Below w5.heap.size w5 W7 := hb6.trans (HW7.out.1.mono hb6.size)
    obtain ⟨R7, hR7, hRn7, hf7⟩ := HX5.out.1.fw.call fsOk hb7
    have HX7 : Hid (Ad wa p q i L s t k R7 W7 ∧ Box W7 qx TE (eA x se) ∧ R7 qx ∧ EdAt W7 x se ∧ Box W7 w6.heap.size TVn (vA u tu) ∧ R7 w6.heap.size ∧ (∃ B, OwnV W7 B u tu) ∧ ∀ n, n < 4 → ∀ b, blkOf (tu.a n) = some b → R7 b) := by
      have ho := fun n hn => (HO6 n hn).below HW7.out.1
      exact ⟨HX5.out.1.more hf7 ⟨hR7, Kp.of hb7⟩ (Nat.le_refl _), HX5.out.2.1.kept (hb7.block _ HX5.out.2.1.lt), hR7 _ HX5.out.2.2.1, HXE.out.1.below hf7.base, HW7.out.2, hRn7 _ hb6.size HW7.out.2.lt, ⟨_, ho⟩, fun n hn b hb => hRn7 b ((ho n hn).ge hb) (tag_lt ((ho n hn).tag hb))⟩
    obtain ⟨v0, v1, v2, v3⟩ := HX7.out.2.2.2.2.1.fourV
    obtain ⟨z0, z1, z2, z3, z4⟩ := HX7.out.2.1.five
    clear HAP HO6 hb6 HX5 c0 c1 c2 c3 c4 c5 c6 c7 y0 y1 y2 y3 y4 HW7 hb7 hR7 hRn7 hf7
    go_upto_region 14 with fail
    rw [← eW7.out]
    clear eW7
    generalize w6.heap.size = qv at HX7 v0 v1 v2 v3 ⊢
    have hel := enc_few her (by omega)
    have HPA := fw_append fsOk HX7.out.1.fw 5 x se (by have := HX7.out.1.fine.asked; show k.asked < _; omega) HX7.out.2.2.2.1 HXE.out.2.1 (by decide)
    obtain ⟨k8, eap, hk8⟩ := append_next (c := cr1 (manD 53) (manOf (sA0.eds ++ L))) (k := k) (n := 12 + 3 * i) (num := 5) (x := x) (B := manOf (sA0.eds ++ L)) (i := 2) (j := 1) (by rw [name_5]; exact cr1_base _ mn_5 fresh_5) her (by omega) (by rw [cr1_bulk]; have h1 : (manD 53).length = 15 := rfl; have h2 := HX7.out.1.man; have h3 := put_short (manOf (sA0.eds ++ L)).length x.enc; omega) HX7.out.1.fine
    rw [cr1_app, ← man_more] at eap
    rw [eap] at HPA
    dsimp only at HPA
    have HK8 : Hid (Fine k8 (12 + 3 * (i + 1)) ∧ (manOf (sA0.eds ++ (L ++ [x]))).length ≤ 22000 + 27000 * (i + 1) ∧ (∀ y ∈ L ++ [x], y.err = 0) ∧ (L ++ [x]).length ≤ i + 1 ∧ Base (cr1 (manD 53) (manOf (sA0.eds ++ (L ++ [x])))) (manD 53) (manOf (sA0.eds ++ (L ++ [x]))) 2 1) := ⟨⟨hk8.quiet, hk8.quota, by have := hk8.asked; omega⟩, by have h1 := man_grow sA0 L x hel; have h2 := HX7.out.1.man; omega, fun y hy => (List.mem_append.1 hy).elim (HX7.out.1.errs y) fun hy => by rw [List.mem_singleton.1 hy]; exact her, by rw [List.length_append]; have := HX7.out.1.len; simp; omega, cr1_base _ mn_5 fresh_5⟩
    have hErr : Hid (x.err = 0) := her
    clear eap hk8 her
    go_wp2_with fail
    refine HPA.mono ?_
    rintro _ w8 ⟨rfl, R8, h8, n8⟩
    have HX8 : Hid (SB w8 R8 q s t ∧ Box w8 qx TE (eA x se) ∧ R8 qx ∧ Box w8 qv TVn (vA u tu) ∧ R8 qv ∧ Fw D0 wa p (pf (cr1 (manD 53) (manOf (sA0.eds ++ (L ++ [x])))) k8) R8 w8 ∧ ((∃ B, OwnV w8 B u tu) ∧ ∀ n, n < 4 → ∀ b, blkOf (tu.a n) = some b → R8 b)) := by
      obtain ⟨B, hB⟩ := HX7.out.2.2.2.2.2.2.1
      exact ⟨HX7.out.1.sb.nx n8, HX7.out.2.1.kept (n8.kp.block _ HX7.out.2.2.1 HX7.out.2.1.lt), n8.more _ HX7.out.2.2.1, HX7.out.2.2.2.2.1.kept (n8.kp.block _ HX7.out.2.2.2.2.2.1 HX7.out.2.2.2.2.1.lt), n8.more _ HX7.out.2.2.2.2.2.1, h8, ⟨B, fun n hn => (hB n hn).kept fun g hg => n8.kp.block g (HX7.out.2.2.2.2.2.2.2 n hn g hg) (tag_lt ((hB n hn).tag hg))⟩, fun n hn b hb => n8.more _ (HX7.out.2.2.2.2.2.2.2 n hn b hb)⟩
    have HAD : Hid (stepsS sA0 L = some s ∧ (∀ y ∈ L, y.err = 0) ∧ s.Ok ∧ Four s.v ∧ s.num = 5 ∧ s.v.all.length ≤ 100 * i ∧ WfV s.v) := ⟨HX7.out.1.steps, HX7.out.1.errs, HX7.out.1.ok, HX7.out.1.four, HX7.out.1.num, HX7.out.1.few, HX7.out.1.sb.vs.wf⟩
    clear HPA h8 n8 HX7 v0 v1 v2 v3 z0 z1 z2 z3 z4
    by_cases hea : ea = 0
    · subst hea
      obtain ⟨v0, v1, v2, v3⟩ := HX8.out.2.2.2.1.fourV
      obtain ⟨c0, c1, c2, c3, c4, c5, c6, c7⟩ := HX8.out.1.box.eight
      have cs : ∀ j, w8.frozen? ⟨q, j, none⟩ = false := fun j => HX8.out.1.box.soft j
      obtain ⟨Y1, eY1, HY1⟩ := put4_all HX8.out.1.box u tu
      have HT1 : Hid (Box Y1 q TSt (sA ⟨s.num, u, s.log, s.next, s.last⟩ tu) ∧ Chg (fun k => k = q) w8 Y1) := ⟨HY1.out.1, HY1.out.2⟩
      have HQ : Hid (q < qx) := HQX.out
      clear HY1
      go_upto_region 24 with fail
      rw [← eY1]
      clear eY1 v0 v1 v2 v3 c0 c1 c2 c3 c4 c5 c6 c7 cs
      have HXB : Hid (Box Y1 qx TE (eA x se)) := HX8.out.2.1.kept (HT1.out.2.block _ HX8.out.2.1.lt (by have := HQ.out; omega))
      obtain ⟨x0, x1, x2, x3, x4⟩ := HXB.out.five
      obtain ⟨c0, c1, c2, c3, c4, c5, c6, c7⟩ := HT1.out.1.eight
      have cs : ∀ j, Y1.frozen? ⟨q, j, none⟩ = false := fun j => HT1.out.1.soft j
      go_upto_if 110 with fail
      go_cut [7] (fun xs wz => xs = .int .i64 (i : Int) ∧ Hid (Box wz q TSt (sA ⟨s.num, u, if 0 < x.log then x.log else s.log, s.next, s.last⟩ tu) ∧ Chg (fun k => k = q) w8 wz))
      case first =>
        by_cases hz : 0 < x.log
        · have hzi : (0 : Int) < (x.log : Int) := by omega
          go_wp2_with fail
          go_meet
          refine ⟨rfl, ?_⟩
          rw [if_pos hz]
          exact ⟨(HT1.out.1.set 5 _).eq (by simp [sA]), HT1.out.2.set (fun _ => rfl) _ _⟩
        · have hzi : ¬ (0 : Int) < (x.log : Int) := by omega
          go_wp2_with fail
          go_meet
          refine ⟨rfl, ?_⟩
          rw [if_neg hz]
          exact HT1.out
      case rest =>
        obtain ⟨rfl, HT2⟩ := hcut
        clear x0 x1 x2 x3 x4 c0 c1 c2 c3 c4 c5 c6 c7 cs HXB HT1
        generalize wc = Y2 at HT2 ⊢
        have HXB : Hid (Box Y2 qx TE (eA x se)) := HX8.out.2.1.kept (HT2.out.2.block _ HX8.out.2.1.lt (by have := HQ.out; omega))
        obtain ⟨x0, x1, x2, x3, x4⟩ := HXB.out.five
        obtain ⟨c0, c1, c2, c3, c4, c5, c6, c7⟩ := HT2.out.1.eight
        have cs : ∀ j, Y2.frozen? ⟨q, j, none⟩ = false := fun j => HT2.out.1.soft j
        go_upto_if 116 with fail
        go_cut [7] (fun xs wz => xs = .int .i64 (i : Int) ∧ Hid (Box wz q TSt (sA ⟨s.num, u, if 0 < x.log then x.log else s.log, if 0 < x.next then x.next else s.next, s.last⟩ tu) ∧ Chg (fun k => k = q) w8 wz))
        case first =>
          by_cases hz : 0 < x.next
          · have hzi : (0 : Int) < (x.next : Int) := by omega
            go_wp2_with fail
            go_meet
            refine ⟨rfl, ?_⟩
            rw [if_pos hz]
            exact ⟨(HT2.out.1.set 6 _).eq (by simp [sA]), HT2.out.2.set (fun _ => rfl) _ _⟩
          · have hzi : ¬ (0 : Int) < (x.next : Int) := by omega
            go_wp2_with fail
            go_meet
            refine ⟨rfl, ?_⟩
            rw [if_neg hz]
            exact HT2.out
        case rest =>
          obtain ⟨rfl, HT3⟩ := hcut
          clear x0 x1 x2 x3 x4 c0 c1 c2 c3 c4 c5 c6 c7 cs HXB HT2
          generalize wc = Y3 at HT3 ⊢
          have HXB : Hid (Box Y3 qx TE (eA x se)) := HX8.out.2.1.kept (HT3.out.2.block _ HX8.out.2.1.lt (by have := HQ.out; omega))
          obtain ⟨x0, x1, x2, x3, x4⟩ := HXB.out.five
          obtain ⟨c0, c1, c2, c3, c4, c5, c6, c7⟩ := HT3.out.1.eight
          have cs : ∀ j, Y3.frozen? ⟨q, j, none⟩ = false := fun j => HT3.out.1.soft j
          go_upto_if 122 with fail
          go_cut [7] (fun xs wz => xs = .int .i64 (i : Int) ∧ Hid (Box wz q TSt (sA ⟨s.num, u, if 0 < x.log then x.log else s.log, if 0 < x.next then x.next else s.next, if 0 < x.last then x.last else s.last⟩ tu) ∧ Chg (fun k => k = q) w8 wz))
          case first =>
            by_cases hz : 0 < x.last
            · have hzi : (0 : Int) < (x.last : Int) := by omega
              go_wp2_with fail
              go_meet
              refine ⟨rfl, ?_⟩
              rw [if_pos hz]
              exact ⟨(HT3.out.1.set 7 _).eq (by simp [sA]), HT3.out.2.set (fun _ => rfl) _ _⟩
            · have hzi : ¬ (0 : Int) < (x.last : Int) := by omega
              go_wp2_with fail
              go_meet
              refine ⟨rfl, ?_⟩
              rw [if_neg hz]
              exact HT3.out
          case rest =>
            obtain ⟨rfl, HT4⟩ := hcut
            clear x0 x1 x2 x3 x4 c0 c1 c2 c3 c4 c5 c6 c7 cs HXB HT3
            generalize wc = Y4 at HT4 ⊢
            have HVU : Hid (VS w8 R8 u tu) := ⟨HX8.out.2.2.2.2.2.2.1, HX8.out.2.2.2.2.2.2.2, wf_apply HAU.out HAD.out.2.2.2.2.2.2 HXE.out.2.1⟩
            obtain ⟨R9, hR9, h9⟩ := Fw.chg fsOk HX8.out.2.2.2.2.2.1 (HT4.out.2.wide fun k _ e => by rw [e]; exact HX8.out.1.mine) (HT4.out.2.below (fun k hk => by rw [hk]; exact HQW.out) HX8.out.2.2.2.2.2.1.base.size)
            have HST : Hid (stepS s x = some (s.turn x u)) := by
              unfold Hid stepS
              rw [HAU.out, if_pos rfl]
            have HTN := told_next sA0_ok four_no HAD.out.2.1 hErr.out HAD.out.1 HAU.out
            have HS9 : Hid (SB Y4 R9 q (s.turn x u) tu) := ⟨HT4.out.1, hR9 _ HX8.out.1.mine, (HVU.out.other HX8.out.1.box HT4.out.2.block).more hR9⟩
            have HLD := fw_loadW fsOk h9 HK8.out.1.quiet (num := 5) (by decide) (L := sA0.eds ++ (L ++ [x])) (by rw [name_5]; exact HK8.out.2.2.2.2.holds) (Nat.le_trans HK8.out.2.1 (by omega)) (fun y hy => (List.mem_append.1 hy).elim (sA0_ok.errs y) (HK8.out.2.2.1 y)) (by rw [List.length_append]; have h1 : sA0.eds.length = 1 := rfl; have := HK8.out.2.2.2.1; omega) HTN.2
            have HAD2 : Hid (stepsS sA0 (L ++ [x]) = some (s.turn x u)) := HTN.1
            clear HTN h9 hR9 HVU HT4 HX8
            go_wp2_with fail
            refine HLD.mono ?_
            rintro _ w10 ⟨tl, rfl, R10, h10, n10, v10⟩
            obtain ⟨W11, R11, eW11, h11, n11, b11⟩ := Fw.box2 fsOk h10 _ v10
            have HB11 : Hid (SB W11 R11 q (s.turn x u) tu ∧ SB W11 R11 w10.heap.size (s.turn x u) tl) := ⟨(HS9.out.nx n10).nx n11, b11⟩
            have HSA := fw_same fsOk h11 HB11.out.1.vs.at HB11.out.2.vs.at
            obtain ⟨c0, c1, c2, c3, c4, c5, c6, c7⟩ := HB11.out.1.box.eight
            obtain ⟨g0, g1, g2, g3, g4, g5, g6, g7⟩ := HB11.out.2.box.eight
            clear HLD h10 n10 v10 HS9 h11 n11 b11
            go_upto_region 31 with fail
            rw [← eW11.out]
            clear eW11
            generalize w10.heap.size = ql at HB11 g0 g1 g2 g3 g4 g5 g6 g7 ⊢
            go_wp2_with fail
            refine HSA.mono ?_
            rintro _ w12 ⟨bo, rfl, hbo, R12, h12, n12⟩
            obtain rfl : bo = true := hbo (PSt.Like.refl _)
            have HNX : Hid (Ad wa p q (i + 1) (L ++ [x]) (s.turn x u) tu k8 R12 w12) := by
              have hf := apply_few HAU.out
              refine ⟨h12, HB11.out.1.nx n12, HK8.out.1, HAD2.out, HK8.out.2.2.1, HK8.out.2.2.2.1, HK8.out.2.1, turn_ok HAD.out.2.2.1 HST.out, turn_four HAD.out.2.2.2.1 HAU.out, HAD.out.2.2.2.2.1, ?_⟩
              have h3 := HAD.out.2.2.2.2.2.1
              show u.all.length ≤ _
              omega
            clear HSA c0 c1 c2 c3 c4 c5 c6 c7 g0 g1 g2 g3 g4 g5 g6 g7 HB11 hbo h12 n12
            go_wp2
            go_roundw
            case rel => exact ⟨i + 1, _, _, _, _, _, hin, hi9, by go_num, HNX.out⟩
            case measure => simp only [intOf]; omega
    · have heab : ((ea : Int) != 0) = true := by simp; omega
      have HNO := told_gone sA0_ok four_no HAD.out.2.1 hErr.out HAD.out.1 (show (applyV s.v x).1 ≠ 0 by rw [HAU.out]; exact hea)
      have HLD := fw_loadN fsOk HX8.out.2.2.2.2.2.1 HK8.out.1.quiet (num := 5) (by decide) (L := sA0.eds ++ (L ++ [x])) (by rw [name_5]; exact HK8.out.2.2.2.2.holds) (Nat.le_trans HK8.out.2.1 (by omega)) (fun y hy => (List.mem_append.1 hy).elim (sA0_ok.errs y) (HK8.out.2.2.1 y)) (by rw [List.length_append]; have h1 : sA0.eds.length = 1 := rfl; have := HK8.out.2.2.2.1; omega) HNO
      clear HNO
      go_wp2_with fail
      refine HLD.mono ?_
      rintro _ w9 ⟨tz, rfl, R9, h9, n9, v9⟩
      obtain ⟨W10, R10, eW10, h10, n10, b10⟩ := Fw.box2 fsOk h9 zS v9
      have HS10 : Hid (SB W10 R10 q s t ∧ Fw D0 wa p (pf (cr1 (manD 53) (manOf (sA0.eds ++ (L ++ [x])))) k8) R10 W10) := ⟨(HX8.out.1.nx n9).nx n10, h10⟩
      obtain ⟨c0, c1, c2, c3, c4, c5, c6, c7⟩ := HS10.out.1.box.eight
      have cs : ∀ j, W10.frozen? ⟨q, j, none⟩ = false := fun j => HS10.out.1.box.soft j
      clear HLD h9 n9 v9 h10 n10 b10 HX8
      go_upto_region 18 with fail
      rw [← eW10.out]
      clear eW10
      obtain ⟨Z, eZ⟩ : ∃ Z, Hid (Z = W10.setCell ⟨q, 0, none⟩ (.int .u64 9)) := ⟨_, rfl⟩
      have HZ : Hid (Box Z q TSt (sA (s.as 9) t) ∧ Chg (fun k => k = q) W10 Z) := by
        rw [eZ.out]
        exact ⟨(HS10.out.1.box.set 0 _).eq (by simp [sA, PSt.as]), (Chg.refl (fun k => k = q) W10).set (fun _ => rfl) _ _⟩
      obtain ⟨R11, hR11, h11⟩ := Fw.chg fsOk HS10.out.2 (HZ.out.2.wide fun k _ e => by rw [e]; exact HS10.out.1.mine) (HZ.out.2.below (fun k hk => by rw [hk]; exact HQW.out) HS10.out.2.base.size)
      have HS11 : Hid (SB Z R11 q (s.as 9) t) := ⟨HZ.out.1, hR11 _ HS10.out.1.mine, (HS10.out.1.vs.other HS10.out.1.box HZ.out.2.block).more hR11⟩
      have hok9 := as_ok HAD.out.2.2.1 9
      have hfew9 : (s.as 9).v.all.length ≤ 100 * 10 := by have h3 := HAD.out.2.2.2.2.2.1; show s.v.all.length ≤ _; omega
      have hln9 := bytes_len hok9 hfew9
      have HW9 := fw_write fsOk h11 (s.as 9) t (by have := HK8.out.1.asked; show k8.asked < _; omega) HS11.out.vs.at HS11.out.vs.wf (Nat.le_trans hfew9 (by decide)) (by show (9 : Nat) < _; decide)
      have hck9 : chkS (s.as 9) = 0 := chkS_yes hok9 (by show 1 ≤ (9 : Nat); decide) (by show (9 : Nat) ≤ _; decide)
      have hnm9 : nameP 3 (s.as 9).num = manD 57 := name_9
      obtain ⟨k12, ew, hk12⟩ := write_next (s := s.as 9) (c := cr1 (manD 53) (manOf (sA0.eds ++ (L ++ [x])))) (k := k8) hck9 (by rw [hnm9]; exact cr1_find _ (by decide) (by decide)) HK8.out.2.2.2.2.tmp HK8.out.2.2.2.2.idx (by rw [cr1_bulk]; have h1 : (manD 53).length = 15 := rfl; have h2 := HK8.out.2.1; omega) HK8.out.1
      rw [ew, hnm9] at HW9
      dsimp only at HW9
      have HB9 : Hid (Fine k12 (12 + 3 * (i + 1) + 12) ∧ Base (endW (cr1 (manD 53) (manOf (sA0.eds ++ (L ++ [x])))) (manD 57) (s.as 9).bytes) (manD 57) (s.as 9).bytes 5 4 ∧ (s.as 9).Ok ∧ (manOf (s.as 9).eds).length ≤ 22000 * 11 ∧ (s.as 9).eds.length ≤ 11) := ⟨hk12, end_base (c := cr1 (manD 53) (manOf (sA0.eds ++ (L ++ [x])))) (s.as 9).bytes mn_9 HK8.out.2.2.2.2.idx HK8.out.2.2.2.2.full, hok9, hln9, eds_len hfew9⟩
      obtain ⟨d0, d1, d2, d3, d4, d5, d6, d7⟩ := HS11.out.box.eight
      clear HZ h11 hR11 HS10 hok9 hfew9 hln9 hck9 hnm9 ew hk12
      go_upto_region 19 with fail
      rw [← eZ.out]
      clear eZ c0 c1 c2 c3 c4 c5 c6 c7 cs
      go_wp2_with fail
      refine HW9.mono ?_
      rintro _ w12 ⟨rfl, R12, h12, n12⟩
      have HS12 : Hid (SB w12 R12 q (s.as 9) t) := HS11.out.nx n12
      have HLD := fw_loadW fsOk h12 HB9.out.1.quiet (num := 9) (by decide) (L := (s.as 9).eds) (by rw [name_9]; exact HB9.out.2.1.holds) (Nat.le_trans HB9.out.2.2.2.1 (by decide)) HB9.out.2.2.1.errs (Nat.le_trans HB9.out.2.2.2.2 (by decide)) (told_self HB9.out.2.2.1 HAD.out.2.2.2.1)
      clear HW9 h12 n12 HS11 d0 d1 d2 d3 d4 d5 d6 d7
      go_wp2_with fail
      refine HLD.mono ?_
      rintro _ w13 ⟨tl, rfl, R13, h13, n13, v13⟩
      obtain ⟨W14, R14, eW14, h14, n14, b14⟩ := Fw.box2 fsOk h13 _ v13
      have HB14 : Hid (SB W14 R14 q (s.as 9) t ∧ SB W14 R14 w13.heap.size (s.as 9) tl) := ⟨(HS12.out.nx n13).nx n14, b14⟩
      have HSA := fw_same fsOk h14 HB14.out.1.vs.at HB14.out.2.vs.at
      obtain ⟨c0, c1, c2, c3, c4, c5, c6, c7⟩ := HB14.out.1.box.eight
      obtain ⟨g0, g1, g2, g3, g4, g5, g6, g7⟩ := HB14.out.2.box.eight
      clear HLD h13 n13 v13 HS12 h14 n14 b14
      go_upto_region 21 with fail
      rw [← eW14.out]
      clear eW14
      generalize w13.heap.size = ql at HB14 g0 g1 g2 g3 g4 g5 g6 g7 ⊢
      go_wp2_with fail
      refine HSA.mono ?_
      rintro _ w15 ⟨bo, rfl, hbo, R15, h15, n15⟩
      obtain rfl : bo = true := hbo (PSt.Like.refl _)
      have HZ : Hid (Below w.heap.size w w15) := HRA.out.2.2.2.trans (h15.base.mono HRA.out.2.2.2.size)
      clear HSA c0 c1 c2 c3 c4 c5 c6 c7 g0 g1 g2 g3 g4 g5 g6 g7 HB14 hbo h15 n15
      go_wp2
      try go_ret
      exact ⟨ret1 rfl, HZ.out⟩
end Go.Proofs.YtmlfbihlbiikeabGreatDoor
