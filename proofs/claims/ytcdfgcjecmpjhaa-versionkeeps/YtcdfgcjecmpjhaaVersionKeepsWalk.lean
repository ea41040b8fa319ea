/- The walk of VersionKeeps. -/
import Derived.Test.YtcdfgcjecmpjhaaV14Awake
import Derived.Test.YtcdfgcjecmpjhaaV14Bk
import Derived.Test.YtcdfgcjecmpjhaaV14RSame
import Derived.Deep.DeepCutAuto
import Derived.Deep.RegionHeld3
import Derived.BigQuiet
namespace Go.Proofs.Ytcdfgcjecmpjhaa
open Go.RowKit
set_option linter.unusedVariables false
set_option linter.unusedSimpArgs false
/-- What a round of VersionKeeps begins with. -/
structure Kr (w : World) (p4 : Nat) (v : PV) (s : SV) (i : Nat) (V : World) : Prop where
  below : Below w.heap.size w V
  own : OwnV V (p4 + 1) v s
  box : Box V p4 TVn (vA v s)
  ge : w.heap.size ≤ p4
  ok : VOk v
  wf : WfV v
  few : v.all.length ≤ i * 100
theorem Kr.later {w V V' : World} {p4 : Nat} {v : PV} {s : SV} {i : Nat} (h : Kr w p4 v s i V) (hb : Below V.heap.size V V') : Kr w p4 v s i V' :=
  ⟨h.below.trans (hb.mono h.below.size), h.own.below hb, h.box.kept (hb.block _ h.box.lt), h.ge, h.ok, h.wf, h.few⟩
theorem Kr.next {w V : World} {p4 : Nat} {v : PV} {s : SV} {i : Nat} (h : Kr w p4 v s i V) : Kr w p4 v s (i + 1) V :=
  ⟨h.below, h.own, h.box, h.ge, h.ok, h.wf, by have := h.few; omega⟩
/-- The version behind the edit is laid in the variable. -/
theorem Kr.move {w V : World} {p4 : Nat} {v u : PV} {s t : SV} {i : Nat} (h : Kr w p4 v s i V) (ho : OwnV V (p4 + 1) u t) (h1 : VOk u) (h2 : WfV u) (h3 : u.all.length ≤ v.all.length + 100) : Kr w p4 u t (i + 1) ((((V.setCell ⟨p4, 0, none⟩ (.slice (t.a 0) (u 0).length (t.c 0))).setCell ⟨p4, 1, none⟩ (.slice (t.a 1) (u 1).length (t.c 1))).setCell ⟨p4, 2, none⟩ (.slice (t.a 2) (u 2).length (t.c 2))).setCell ⟨p4, 3, none⟩ (.slice (t.a 3) (u 3).length (t.c 3))) := by
  have hc : Chg (fun k => k = p4) V ((((V.setCell ⟨p4, 0, none⟩ (.slice (t.a 0) (u 0).length (t.c 0))).setCell ⟨p4, 1, none⟩ (.slice (t.a 1) (u 1).length (t.c 1))).setCell ⟨p4, 2, none⟩ (.slice (t.a 2) (u 2).length (t.c 2))).setCell ⟨p4, 3, none⟩ (.slice (t.a 3) (u 3).length (t.c 3))) := ((((Chg.refl (fun k => k = p4) V).set (fun _ => rfl) _ _).set (fun _ => rfl) _ _).set (fun _ => rfl) _ _).set (fun _ => rfl) _ _
  refine ⟨h.below.trans (hc.below (fun k hk => by have := h.ge; omega) h.below.size), fun n hn => ?_, ((((h.box.set 0 _).set 1 _).set 2 _).set 3 _).eq rfl, h.ge, h1, h2, by have := h.few; omega⟩
  have h4 := ho n hn
  exact h4.kept (fun g hg => hc.block _ (tag_lt (h4.tag hg)) (fun e => by have := h4.ge hg; omega))
theorem Box.two {V : World} {p : Nat} {g : PG} (h : Box V p TG (gA g)) : V.cell? ⟨p, 0, none⟩ = some (.int .i64 g.level) ∧ V.cell? ⟨p, 1, none⟩ = some (.int .u64 (g.num : Int)) := ⟨h.cell 0, h.cell 1⟩
theorem wfV_none : WfV noV := fun n hn f hf => by cases hf
set_option maxRecDepth 100000 in
set_option maxHeartbeats 8000000 in
theorem versionKeeps_walk (a : Option Addr) (n c : Nat) (l : List (PE × SE)) (w : World) (h : EsAt w a n c l) (hn : n * 72 ≤ 140737488351232) :
    Calls Try.prog 6 #[.slice a n c] w fun e w' => e = .returned (.bool true) ∧ Below w.heap.size w w' := by
  have HV : Hid (EsAt w a n c l) := h
  have hlc := h.row.le
  have hmx := h.row.max
  unfold maxLen at hmx
  clear h
  go_enter Try.func6, Try.ntmps6
  go_wp2_with fail
  refine (awake_any _).mono ?_
  rintro _ w1 ⟨rfl, hb1⟩
  have H1 : Hid (Below w.heap.size w w1) := hb1
  clear hb1
  go_upto_if 20 with fail
  go_cut [0] (fun s0 wz => ∃ m : Nat, s0 = .slice a m c ∧ m ≤ 10 ∧ m ≤ n ∧ wz = w1)
  case first =>
    by_cases h10 : n ≤ 10
    · have h10b : ¬ (10 : Int) < (n : Int) := by omega
      go_wp2_with fail
      go_meet
      exact ⟨n, rfl, h10, Nat.le_refl _, rfl⟩
    · have h10b : (10 : Int) < (n : Int) := by omega
      have hc10 : (10 : Int) ≤ (c : Int) := by omega
      go_wp2_with fail
      go_meet
      exact ⟨10, by cases a <;> simp [Addr.add], Nat.le_refl _, by omega, rfl⟩
  case rest =>
    obtain ⟨m, rfl, hm10, hmn, rfl⟩ := hcut
    have HM : Hid (EsAt w a m c (l.take m)) := HV.out.take hmn
    generalize l.take m = l2 at HM
    clear HV
    have hml : (m : Int) ≤ 10 := by omega
    obtain ⟨W4, eW, HK⟩ : ∃ W4, W4 = wc.alloc (.cells #[.slice none 0 0, .slice none 0 0, .slice none 0 0, .slice none 0 0] TVn) ∧ Hid (Kr w wc.heap.size noV sv0 0 W4) := ⟨_, rfl, H1.out.alloc H1.out.size _, OwnV.none _ _, Box.new _ _ _, H1.out.size, VOk.none, wfV_none, by decide⟩
    go_upto_region 5 with fail
    rw [← eW]
    generalize wc.heap.size = p4 at HK ⊢
    clear eW H1
    go_wp2_with fail
    go_loopw [5] (fun s5 wr => ∃ (i : Nat) (v : PV) (s : SV), i ≤ m ∧ s5 = .int .i64 (i : Int) ∧ Hid (Kr w p4 v s i wr)) (fun s5 _ => m - (intOf s5).toNat)
    case atStart => exact ⟨0, noV, sv0, Nat.zero_le _, rfl, HK.out⟩
    case round =>
      obtain ⟨i, v, s, him, rfl, HI⟩ := hrel
      by_cases hi : i < m
      · have hil : i < l2.length := by rw [HM.out.size]; exact hi
        obtain ⟨be, oe, hix, hblt, hcs⟩ := HM.out.at hil
        obtain ⟨he1, he2, he3, he4⟩ := HM.out.each l2[i] (List.getElem_mem hil)
        have HE : Hid (EdAt w l2[i].1 l2[i].2 ∧ WfE l2[i].1 ∧ ∀ W : World, Below w.heap.size w W → E5 W be oe l2[i].1 l2[i].2) := ⟨he1, he2, hcs⟩
        have HIX : Hid (∀ W : World, (Instr.indexAt 27 (.slice a m c) (.int .i64 (i : Int))).run Try.prog W = .ok (.pointer (some ⟨be, oe, none⟩)) W) := hix
        clear hcs he1 he2
        generalize l2[i].2 = se at HE
        generalize l2[i].1 = x at HE he3 he4
        have hbe : be < wr.heap.size := Nat.lt_of_lt_of_le hblt HI.out.below.size
        have hp4 : p4 < wr.heap.size := HI.out.box.lt
        have hne1 : p4 ≠ wr.heap.size := by omega
        have hne2 : be ≠ wr.heap.size := by omega
        have hne3 : wr.heap.size ≠ p4 := by omega
        have hne4 : wr.heap.size ≠ be := by omega
        obtain ⟨r, u, hru⟩ : ∃ (r : Nat) (u : PV), applyV v x = (r, u) := ⟨_, _, rfl⟩
        have HR : Hid (applyV v x = (r, u)) := hru
        have HAP : Hid (∀ V : World, Below wr.heap.size wr V → Calls Try.prog 11 #[.agg #[.slice (s.a 0) (v 0).length (s.c 0), .slice (s.a 1) (v 1).length (s.c 1), .slice (s.a 2) (v 2).length (s.c 2), .slice (s.a 3) (v 3).length (s.c 3)], .agg #[.int .u64 (x.log : Int), .int .u64 (x.next : Int), .int .u64 (x.last : Int), .slice se.a x.dels.length se.c, .slice se.a' x.adds.length se.c']] V fun e w' => ∃ t : SV, e = .returned (.tuple #[.agg #[.slice (t.a 0) (u 0).length (t.c 0), .slice (t.a 1) (u 1).length (t.c 1), .slice (t.a 2) (u 2).length (t.c 2), .slice (t.a 3) (u 3).length (t.c 3)], .int .i64 ((r : Nat) : Int)]) ∧ Hid (OwnV w' V.heap.size u t) ∧ Below V.heap.size V w') := fun V hV => by
          have h0 := vapply_any v s x se V (HI.out.own.below hV).at (HE.out.1.below (HI.out.below.trans (hV.mono HI.out.below.size))) HI.out.wf HE.out.2.1 (by have := HI.out.few; omega)
          rw [HR.out] at h0
          exact h0
        clear hru
        have HC : Hid (∀ V : World, Below wr.heap.size wr V → (V.cell? ⟨p4, 0, none⟩ = some (.slice (s.a 0) (v 0).length (s.c 0)) ∧ V.cell? ⟨p4, 1, none⟩ = some (.slice (s.a 1) (v 1).length (s.c 1)) ∧ V.cell? ⟨p4, 2, none⟩ = some (.slice (s.a 2) (v 2).length (s.c 2)) ∧ V.cell? ⟨p4, 3, none⟩ = some (.slice (s.a 3) (v 3).length (s.c 3))) ∧ V.cell? ⟨be, oe, none⟩ = some (.int .u64 (x.log : Int)) ∧ V.cell? ⟨be, oe + 1, none⟩ = some (.int .u64 (x.next : Int)) ∧ V.cell? ⟨be, oe + 2, none⟩ = some (.int .u64 (x.last : Int)) ∧ V.cell? ⟨be, oe + 3, none⟩ = some (.slice se.a x.dels.length se.c) ∧ V.cell? ⟨be, oe + 4, none⟩ = some (.slice se.a' x.adds.length se.c')) := fun V hV => by
          have h5 := HE.out.2.2 V (HI.out.below.trans (hV.mono HI.out.below.size))
          exact ⟨(HI.out.box.kept (hV.block _ HI.out.box.lt)).fourV, h5.c0, h5.c1, h5.c2, h5.c3, h5.c4⟩
        have hiI : (i : Int) < (m : Int) := by omega
        go_upto_region 8 with fail
        go_cut [6, 7] (fun s6 s7 wz => ∃ (p6 : Nat) (t : SV), s6 = at_ p6 ∧ s7 = .int .i64 ((r : Nat) : Int) ∧ Hid (Ow wr p6 u t wz))
        case first =>
          have HD : Hid (Below wr.heap.size wr wr.drew) := (Below.refl _ _).drew
          have HD2 : Hid (Below wr.heap.size wr (wr.alloc (.cells #[.slice none 0 0, .slice none 0 0, .slice none 0 0, .slice none 0 0] TVn)).drew) := ((Below.refl _ _).alloc (Nat.le_refl _) _).drew
          obtain ⟨⟨z0, z1, z2, z3⟩, z4, z5, z6, z7, z8⟩ := HC.out _ HD.out
          obtain ⟨⟨y0, y1, y2, y3⟩, y4, y5, y6, y7, y8⟩ := HC.out _ HD2.out
          go_region_held3 (fun V => (V.cell? ⟨p4, 0, none⟩ = some (.slice (s.a 0) (v 0).length (s.c 0)) ∧ V.cell? ⟨p4, 1, none⟩ = some (.slice (s.a 1) (v 1).length (s.c 1)) ∧ V.cell? ⟨p4, 2, none⟩ = some (.slice (s.a 2) (v 2).length (s.c 2)) ∧ V.cell? ⟨p4, 3, none⟩ = some (.slice (s.a 3) (v 3).length (s.c 3))) ∧ V.cell? ⟨be, oe, none⟩ = some (.int .u64 (x.log : Int)) ∧ V.cell? ⟨be, oe + 1, none⟩ = some (.int .u64 (x.next : Int)) ∧ V.cell? ⟨be, oe + 2, none⟩ = some (.int .u64 (x.last : Int)) ∧ V.cell? ⟨be, oe + 3, none⟩ = some (.slice se.a x.dels.length se.c) ∧ V.cell? ⟨be, oe + 4, none⟩ = some (.slice se.a' x.adds.length se.c')) (first | exact ⟨⟨z0, z1, z2, z3⟩, z4, z5, z6, z7, z8⟩ | exact ⟨⟨y0, y1, y2, y3⟩, y4, y5, y6, y7, y8⟩ | go_keep)
            (first
              | (go_at_call 11; refine (HAP.out _ HD.out).mono ?_; rintro _ vx ⟨t, rfl, HO, hvx⟩; have HY : Hid (Below wr.heap.size wr vx) := HD.out.trans hvx; have hge : wr.heap.size ≤ vx.heap.size := HY.out.size; have hn1 : p4 ≠ vx.heap.size := (by omega); have hn2 : be ≠ vx.heap.size := (by omega); clear hvx z0 z1 z2 z3 z4 z5 z6 z7 z8; obtain ⟨⟨z0, z1, z2, z3⟩, z4, z5, z6, z7, z8⟩ := HC.out _ HY.out)
              | (go_at_call 11; refine (HAP.out _ HD2.out).mono ?_; rintro _ vx ⟨t, rfl, HO, hvx⟩; have HY : Hid (Below wr.heap.size wr vx) := HD2.out.trans (hvx.mono (by simp)); have KB : Hid (Box vx wr.heap.size TVn #[.slice none 0 0, .slice none 0 0, .slice none 0 0, .slice none 0 0]) := (by have h9 : Box (wr.alloc (.cells #[.slice none 0 0, .slice none 0 0, .slice none 0 0, .slice none 0 0] TVn)).drew wr.heap.size TVn #[.slice none 0 0, .slice none 0 0, .slice none 0 0, .slice none 0 0] := Box.new wr TVn #[.slice none 0 0, .slice none 0 0, .slice none 0 0, .slice none 0 0]; exact h9.kept (hvx.block _ h9.lt)); have k0 := KB.out.cell 0; have k1 := KB.out.cell 1; have k2 := KB.out.cell 2; have k3 := KB.out.cell 3; have ks := KB.out.soft; clear hvx z0 z1 z2 z3 z4 z5 z6 z7 z8; obtain ⟨⟨z0, z1, z2, z3⟩, z4, z5, z6, z7, z8⟩ := HC.out _ HY.out))
          all_goals go_wp2_with fail
          all_goals go_meet
          all_goals first
            | exact ⟨_, t, rfl, rfl, Ow.new HY.out HO.out (Nat.le_refl _)⟩
            | exact ⟨_, t, rfl, rfl, Ow.set HY.out HO.out (by simp) (Nat.le_refl _) KB.out⟩
        case rest =>
          obtain ⟨p6, t, rfl, rfl, HO⟩ := hcut
          clear HAP HC
          by_cases hr0 : r = 0
          · subst hr0
            have HU : Hid (VOk u ∧ WfV u ∧ u.all.length ≤ v.all.length + 100 ∧ x.err = 0) := ⟨(apply_ok HR.out).1, apply_wf HR.out HI.out.wf HE.out.2.1, apply_len HR.out, (apply_zero HR.out).2.1⟩
            have HKR : Hid (Kr w p4 v s i wc) := HI.out.later HO.out.below
            have hp6 : p6 < wc.heap.size := HO.out.box.lt
            have hck := vcheck_any u t wc HO.out.own.at HU.out.2.1 (by have := HU.out.2.2.1; have := HKR.out.few; omega)
            rw [chkV_yes HU.out.1] at hck
            obtain ⟨c0, c1, c2, c3⟩ := HO.out.box.fourV
            go_wp2_with fail
            refine hck.mono ?_
            rintro _ w5 ⟨rfl, hb5⟩
            have H5 : Hid (Kr w p4 v s i w5 ∧ Box w5 p6 TVn (vA u t) ∧ OwnV w5 (p4 + 1) u t) := ⟨HKR.out.later hb5, HO.out.box.kept (hb5.block _ HO.out.box.lt), fun n hn => ((HO.out.own.below hb5) n hn).less (Nat.succ_le_of_lt hp4)⟩
            have hp65 : p6 < w5.heap.size := H5.out.2.1.lt
            have hp45 : p4 < w5.heap.size := H5.out.1.box.lt
            have hbe5 : be < w5.heap.size := Nat.lt_of_lt_of_le hblt H5.out.1.below.size
            clear c0 c1 c2 c3 hck hb5 HO HKR
            obtain ⟨W6, e6, HB6⟩ : ∃ W6, W6 = w5.alloc (.cells #[.int .u64 0, .int .u64 0, .int .u64 0, .slice none 0 0, .slice none 0 0] TE) ∧ Hid (Bk w5 ez sz0 W6) := ⟨_, rfl, Bk.new w5⟩
            obtain ⟨hdl20, hal100, _, _, _, hde, _⟩ := PE.err_zero HU.out.2.2.2
            have HDE : Hid (∀ d ∈ x.dels, d.err = 0) := hde
            clear hde
            go_upto_region 13 with fail
            rw [← e6]
            clear e6
            go_wp2_with fail
            go_loopw [9] (fun s9 wq => ∃ (k : Nat) (y : PE) (sb : SE), k ≤ x.adds.length ∧ s9 = .int .i64 (k : Int) ∧ Hid (Bk w5 y sb wq ∧ y = ⟨0, 0, 0, (x.adds.take k).map fun f => ⟨f.level, f.num⟩, []⟩)) (fun s9 _ => x.adds.length - (intOf s9).toNat)
            case atStart => exact ⟨0, ez, sz0, Nat.zero_le _, rfl, HB6.out, rfl⟩
            case round =>
              obtain ⟨k, y, sb, hkn, rfl, HQ⟩ := hrel
              have HW : Hid (Below w.heap.size w wr) := H5.out.1.below.trans (HQ.out.1.base.mono H5.out.1.below.size)
              have q5 := HE.out.2.2 wr HW.out
              have q3 := q5.c3
              have q4 := q5.c4
              clear q5
              by_cases hk : k < x.adds.length
              · have hkI : (k : Int) < (x.adds.length : Int) := by omega
                obtain ⟨bf, of, hixf, hbf, hcf⟩ := HE.out.1.fs.at hk
                obtain ⟨f0, f1, f2, f3, f4, f5, f6, f7, f8⟩ := hcf wr HW.out
                have HT : Hid (x.adds.take (k + 1) = x.adds.take k ++ [x.adds[k]]) := List.take_succ_eq_append_getElem hk
                clear hcf
                generalize x.adds[k] = f at f0 f1 f2 f3 f4 f5 f6 f7 f8 HT
                obtain ⟨W7, e7, HB7⟩ : ∃ W7, W7 = wr.alloc (.cells (fA f) TF) ∧ Hid (Bk w5 y sb W7 ∧ F9 W7 wr.heap.size 0 f) := ⟨_, rfl, HQ.out.1.alloc _, (Box.new _ _ _).nine⟩
                go_upto_region 17 with fail
                rw [show wr.alloc (.cells #[.int .i64 f.level, .int .u64 (f.num : Int), .int .i64 f.size, .string f.small.user, .int .u64 (f.small.seq : Int), .int .i64 f.small.kind, .string f.large.user, .int .u64 (f.large.seq : Int), .int .i64 f.large.kind] TF) = W7 from e7.symm]
                generalize wr.heap.size = p10 at HB7 ⊢
                clear e7 f0 f1 f2 f3 f4 f5 f6 f7 f8
                obtain ⟨f0, f1, f2, f3, f4, f5, f6, f7, f8⟩ := HB7.out.2
                obtain ⟨g0, g1, g2, g3, g4⟩ := HB7.out.1.var.five
                have hyl : y.dels.length ≤ 100 := by rw [HQ.out.2]; simp; omega
                have HBG : Hid (Bk w5 y sb (W7.alloc (.cells (gA ⟨f.level, f.num⟩) TG)) ∧ GsAt (W7.alloc (.cells (gA ⟨f.level, f.num⟩) TG)) (some ⟨W7.heap.size, 0, none⟩) 1 1 [⟨f.level, f.num⟩]) := ⟨HB7.out.1.alloc _, GsAt.one _ _⟩
                go_wp2_with (at_builtin; refine wpList_appG (W7.alloc (.cells (gA ⟨f.level, f.num⟩) TG)) rfl _ _ rfl (w5.heap.size + 1) sb.a y.dels.length sb.c y.dels rfl HBG.out.1.gs (some ⟨W7.heap.size, 0, none⟩) 1 1 [⟨f.level, f.num⟩] rfl HBG.out.2 (by omega) HBG.out.1.big ?_; intro a8 c8 w8 ho8 hb8 hg8; have HB8 : Hid (Bk w5 (y.addG ⟨f.level, f.num⟩) ⟨a8, c8, sb.a', sb.c'⟩ (w8.setCell ⟨w5.heap.size, 3, none⟩ (.slice a8 (y.dels.length + 1) c8))) := HBG.out.1.pushG ho8 hb8 hg8; have m3 := (HBG.out.1.var.kept (hb8.block _ (Nat.lt_succ_self _))).cell 3; have ms := (HBG.out.1.var.kept (hb8.block _ (Nat.lt_succ_self _))).soft; clear ho8 hb8 hg8)
                go_roundw
                case rel =>
                  refine ⟨k + 1, _, _, hk, by go_num, HB8.out, ?_⟩
                  rw [HT.out, HQ.out.2]
                  simp [PE.addG]
                case measure => simp only [intOf]; omega
              · have hkI : ¬ (k : Int) < (x.adds.length : Int) := by omega
                have HQ2 : Hid (Bk w5 y sb wr ∧ y = ⟨0, 0, 0, x.adds.map fun f => ⟨f.level, f.num⟩, []⟩) := ⟨HQ.out.1, by rw [HQ.out.2, List.take_of_length_le (by omega)]⟩
                clear HQ HB6
                go_upto_region 18 with fail
                go_wp2_with fail
                go_loopw [11] (fun s11 wq => ∃ (k : Nat) (y : PE) (sb : SE), k ≤ x.dels.length ∧ s11 = .int .i64 (k : Int) ∧ Hid (Bk w5 y sb wq ∧ y = ⟨0, 0, 0, x.adds.map fun f => ⟨f.level, f.num⟩, ((x.dels.take k).flatMap fun d => (v d.level.toNat).filter fun f => decide (f.num = d.num))⟩)) (fun s11 _ => x.dels.length - (intOf s11).toNat)
                case atStart => exact ⟨0, y, sb, Nat.zero_le _, rfl, HQ2.out.1, by rw [HQ2.out.2]; simp⟩
                case round =>
                  clear HQ2 HW q3 q4
                  obtain ⟨k, y, sb, hkn, rfl, HQ⟩ := hrel
                  have HW : Hid (Below w.heap.size w wr) := H5.out.1.below.trans (HQ.out.1.base.mono H5.out.1.below.size)
                  have q5 := HE.out.2.2 wr HW.out
                  have q3 := q5.c3
                  have q4 := q5.c4
                  clear q5
                  by_cases hk : k < x.dels.length
                  · have hkI : (k : Int) < (x.dels.length : Int) := by omega
                    obtain ⟨bg, og, hixg, hbg, hcg⟩ := HE.out.1.gs.at hk
                    obtain ⟨d0, d1⟩ := hcg wr HW.out
                    have HT : Hid (x.dels.take (k + 1) = x.dels.take k ++ [x.dels[k]]) := List.take_succ_eq_append_getElem hk
                    have HDK := HDE.out x.dels[k] (List.getElem_mem hk)
                    clear hcg
                    generalize x.dels[k] = d at d0 d1 HT HDK
                    obtain ⟨hnl, hdl⟩ := lev_nat' HDK
                    obtain ⟨nl, HNL⟩ : ∃ nl : Nat, Hid (nl = d.level.toNat) := ⟨_, rfl⟩
                    have hnl4 : nl < 4 := by rw [HNL.out]; exact hnl
                    have HDL : Hid (d.level = ((nl : Nat) : Int)) := by unfold Hid; rw [HNL.out]; exact hdl
                    clear hnl hdl HDK
                    obtain ⟨W9, e9, HB9⟩ : ∃ W9, W9 = wr.alloc (.cells (gA d) TG) ∧ Hid (Bk w5 y sb W9 ∧ Box W9 wr.heap.size TG (gA d) ∧ w5.heap.size < wr.heap.size) := ⟨_, rfl, HQ.out.1.alloc _, Box.new _ _ _, HQ.out.1.big⟩
                    go_upto_region 22 with fail
                    rw [show wr.alloc (.cells #[.int .i64 d.level, .int .u64 (d.num : Int)] TG) = W9 from e9.symm]
                    generalize wr.heap.size = p12 at HB9 ⊢
                    clear e9 d0 d1
                    have hp12 : w5.heap.size < p12 := HB9.out.2.2
                    have hvl : (v nl).length ≤ 1000 := by have := all_le v hnl4; have := H5.out.1.few; omega
                    have hixp : ∀ W : World, (Instr.indexAt 24 (.pointer (some ⟨p4, 0, none⟩)) (.int .i64 d.level)).run Try.prog W = .ok (.pointer (some ⟨p4, nl, none⟩)) W := fun W => by
                      rw [HDL.out]
                      exact idxL_arr p4 nl hnl4 W
                    go_wp2_with fail
                    go_loopw [13] (fun s13 wq => ∃ (j : Nat) (y2 : PE) (sb2 : SE), j ≤ (v nl).length ∧ s13 = .int .i64 (j : Int) ∧ Hid (Bk w5 y2 sb2 wq ∧ Box wq p12 TG (gA d) ∧ y2 = ⟨0, 0, 0, x.adds.map fun f => ⟨f.level, f.num⟩, ((x.dels.take k).flatMap fun d => (v d.level.toNat).filter fun f => decide (f.num = d.num)) ++ (((v nl).take j).filter fun f => decide (f.num = d.num))⟩)) (fun s13 _ => (v nl).length - (intOf s13).toNat)
                    case atStart => exact ⟨0, y, sb, Nat.zero_le _, rfl, HB9.out.1, HB9.out.2.1, by rw [HQ.out.2]; simp⟩
                    case round =>
                      obtain ⟨j, y2, sb2, hjn, rfl, HJ⟩ := hrel
                      clear q3 q4
                      have HW2 : Hid (Below w.heap.size w wr) := H5.out.1.below.trans (HJ.out.1.base.mono H5.out.1.below.size)
                      obtain ⟨t0, t1⟩ := HJ.out.2.1.two
                      have l0 := (H5.out.1.box.kept (HJ.out.1.base.block _ hp45)).level hnl4
                      have q3 := (HE.out.2.2 wr HW2.out).c3
                      by_cases hj : j < (v nl).length
                      · have hjI : (j : Int) < ((v nl).length : Int) := by omega
                        obtain ⟨bf, of, hixf, hbf, hcf⟩ := (H5.out.1.own.at nl hnl4).at hj
                        have HT2 : Hid ((v nl).take (j + 1) = (v nl).take j ++ [(v nl)[j]]) := List.take_succ_eq_append_getElem hj
                        have HFC : Hid (∀ W : World, Below w5.heap.size w5 W → F9 W bf of (v nl)[j]) := hcf
                        clear hcf
                        generalize (v nl)[j] = f at HT2 HFC
                        obtain ⟨f0, f1, f2, f3, f4, f5, f6, f7, f8⟩ := HFC.out wr HJ.out.1.base
                        by_cases hq : f.num = d.num
                        · have hqb : (((f.num : Nat) : Int) == ((d.num : Nat) : Int)) = true := by simp [hq]
                          have HQN : Hid (f.num = d.num) := hq
                          clear hq
                          go_upto_region 25 with fail
                          go_quiet (fail)
                          have H7 : Hid (Bk w5 y2 sb2 (wr.drewN nq) ∧ Box (wr.drewN nq) p12 TG (gA d)) := ⟨HJ.out.1.call ⟨rfl, rfl, rfl, Nat.le_refl _, fun _ _ => rfl⟩, HJ.out.2.1⟩
                          clear t0 t1 l0 q3 f0 f1 f2 f3 f4 f5 f6 f7 f8
                          go_upto_region 26 with fail
                          generalize wr.drewN nq = wd at H7 ⊢
                          have hya : y2.adds.length ≤ 20001000 := by
                            have h1 := back_len (v := v) (N := 1000) (fun n hn => by have := all_le v hn; have := H5.out.1.few; omega) (l := x.dels.take k) (fun e he => HDE.out e (List.mem_of_mem_take he))
                            have h2 := List.length_filter_le (fun f : PF => decide (f.num = d.num)) ((v nl).take j)
                            rw [HJ.out.2.2]
                            simp only [List.length_append]
                            rw [List.length_take] at h1 h2
                            have h3 : min k x.dels.length * 1000 ≤ 20000 * 1000 := Nat.mul_le_mul_right _ (by omega)
                            omega
                          have HCS : Hid (∀ V : World, Below wd.heap.size wd V → V.cell? ⟨p12, 0, none⟩ = some (.int .i64 d.level) ∧ V.cell? ⟨p4, nl, none⟩ = some (.slice (s.a nl) (v nl).length (s.c nl)) ∧ V.cell? ⟨bf, of, none⟩ = some (.int .i64 f.level) ∧ V.cell? ⟨bf, of + 1, none⟩ = some (.int .u64 (f.num : Int)) ∧ V.cell? ⟨bf, of + 2, none⟩ = some (.int .i64 f.size) ∧ V.cell? ⟨bf, of + 3, none⟩ = some (.string f.small.user) ∧ V.cell? ⟨bf, of + 4, none⟩ = some (.int .u64 (f.small.seq : Int)) ∧ V.cell? ⟨bf, of + 5, none⟩ = some (.int .i64 f.small.kind) ∧ V.cell? ⟨bf, of + 6, none⟩ = some (.string f.large.user) ∧ V.cell? ⟨bf, of + 7, none⟩ = some (.int .u64 (f.large.seq : Int)) ∧ V.cell? ⟨bf, of + 8, none⟩ = some (.int .i64 f.large.kind)) := fun V hV => by
                            have h1 := (H7.out.1.call hV)
                            have h9 := HFC.out V h1.base
                            exact ⟨(H7.out.2.kept (hV.block _ H7.out.2.lt)).two.1, (H5.out.1.box.kept (h1.base.block _ hp45)).level hnl4, h9.c0, h9.c1, h9.c2, h9.c3, h9.c4, h9.c5, h9.c6, h9.c7, h9.c8⟩
                          have HD : Hid (Bk w5 y2 sb2 wd.drew ∧ Box wd.drew p12 TG (gA d)) := ⟨H7.out.1.drew, H7.out.2⟩
                          obtain ⟨z0, z1, z2, z3, z4, z5, z6, z7, z8, z9, z10⟩ := HCS.out wd.drew (Below.refl _ _).drew
                          obtain ⟨k0, k1, k2, k3, k4, k5, k6, k7, k8, k9, k10⟩ := HCS.out (wd.alloc (.cells (fA f) TF)).drew ((Below.refl _ _).alloc (Nat.le_refl _) _).drew
                          have h4 := HD.out.1.var.five.2.2.2.2
                          have h4' := (H7.out.1.alloc (.cells (fA f) TF)).drew.var.five.2.2.2.2
                          have hbg1 : w5.heap.size + 1 ≤ wd.drew.heap.size := HD.out.1.big
                          have hp12d : p12 < wd.heap.size := H7.out.2.lt
                          have hn1 : p12 ≠ w5.heap.size := by omega
                          have hn2 : w5.heap.size ≠ p12 := by omega
                          have hn3 : p4 ≠ w5.heap.size := by omega
                          have hn4 : w5.heap.size ≠ p4 := by omega
                          have hn5 : bf ≠ w5.heap.size := by omega
                          have hn6 : w5.heap.size ≠ bf := by omega
                          have h4a : wd.cell? ⟨w5.heap.size, 4, none⟩ = some (.slice sb2.a' y2.adds.length sb2.c') := H7.out.1.var.five.2.2.2.2
                          have h4b : (wd.alloc (.cells #[.int .i64 f.level, .int .u64 (f.num : Int), .int .i64 f.size, .string f.small.user, .int .u64 (f.small.seq : Int), .int .i64 f.small.kind, .string f.large.user, .int .u64 (f.large.seq : Int), .int .i64 f.large.kind] TF)).cell? ⟨w5.heap.size, 4, none⟩ = some (.slice sb2.a' y2.adds.length sb2.c') := (H7.out.1.alloc (.cells (fA f) TF)).var.five.2.2.2.2
                          have h4c : (wd.drew.alloc (.cells #[.int .i64 f.level, .int .u64 (f.num : Int), .int .i64 f.size, .string f.small.user, .int .u64 (f.small.seq : Int), .int .i64 f.small.kind, .string f.large.user, .int .u64 (f.large.seq : Int), .int .i64 f.large.kind] TF)).cell? ⟨w5.heap.size, 4, none⟩ = some (.slice sb2.a' y2.adds.length sb2.c') := (HD.out.1.alloc (.cells (fA f) TF)).var.five.2.2.2.2
                          refine wp_region_held_drew (S := fun V => V.cell? ⟨p12, 0, none⟩ = some (.int .i64 d.level) ∧ V.cell? ⟨p4, nl, none⟩ = some (.slice (s.a nl) (v nl).length (s.c nl)) ∧ V.cell? ⟨bf, of, none⟩ = some (.int .i64 f.level) ∧ V.cell? ⟨bf, of + 1, none⟩ = some (.int .u64 (f.num : Int)) ∧ V.cell? ⟨bf, of + 2, none⟩ = some (.int .i64 f.size) ∧ V.cell? ⟨bf, of + 3, none⟩ = some (.string f.small.user) ∧ V.cell? ⟨bf, of + 4, none⟩ = some (.int .u64 (f.small.seq : Int)) ∧ V.cell? ⟨bf, of + 5, none⟩ = some (.int .i64 f.small.kind) ∧ V.cell? ⟨bf, of + 6, none⟩ = some (.string f.large.user) ∧ V.cell? ⟨bf, of + 7, none⟩ = some (.int .u64 (f.large.seq : Int)) ∧ V.cell? ⟨bf, of + 8, none⟩ = some (.int .i64 f.large.kind)) (by kernel_rfl) ⟨z0, z1, z2, z3, z4, z5, z6, z7, z8, z9, z10⟩ (fun hHeld => ?_)
                          refine wpAnyH_take (i := 0) (v := ?_) rfl (by kernel_rfl) (by kernel_rfl) (by kernel_rfl) (fun _ _ _ h => h) (Or.inl ⟨by rfl, ?_⟩) hHeld ?_
                          rotate_left
                          · intro w hSw
                            try dsimp only at hSw
                            go_simp
                            try with_reducible rfl
                          try simp only [Act.put, List.getElem_toArray, List.getElem_cons_succ, List.getElem_cons_zero, Array.getInternal_eq_getElem, List.setIfInBounds_toArray, List.set_cons_zero, List.set_cons_succ]
                          refine wpAnyH_take (i := 2) (v := ?_) rfl (by kernel_rfl) (by kernel_rfl) (by kernel_rfl) (fun _ _ _ h => h) (Or.inl ⟨by rfl, ?_⟩) hHeld ?_
                          rotate_left
                          · intro w hSw
                            try dsimp only at hSw
                            go_simp
                            try with_reducible rfl
                          try simp only [Act.put, List.getElem_toArray, List.getElem_cons_succ, List.getElem_cons_zero, Array.getInternal_eq_getElem, List.setIfInBounds_toArray, List.set_cons_zero, List.set_cons_succ]
                          refine wpAnyH_take (i := 3) (v := ?_) rfl (by kernel_rfl) (by kernel_rfl) (by kernel_rfl) (fun _ _ _ h => h) (Or.inl ⟨by rfl, ?_⟩) hHeld ?_
                          rotate_left
                          · intro w hSw
                            try dsimp only at hSw
                            go_simp
                            try with_reducible rfl
                          try simp only [Act.put, List.getElem_toArray, List.getElem_cons_succ, List.getElem_cons_zero, Array.getInternal_eq_getElem, List.setIfInBounds_toArray, List.set_cons_zero, List.set_cons_succ]
                          refine wpAnyH_take (i := 4) (v := ?_) rfl (by kernel_rfl) (by kernel_rfl) (by kernel_rfl) (fun _ _ _ h => h) (Or.inl ⟨by rfl, ?_⟩) hHeld ?_
                          rotate_left
                          · intro w hSw
                            try dsimp only at hSw
                            go_simp
                            try with_reducible rfl
                          try simp only [Act.put, List.getElem_toArray, List.getElem_cons_succ, List.getElem_cons_zero, Array.getInternal_eq_getElem, List.setIfInBounds_toArray, List.set_cons_zero, List.set_cons_succ]
                          refine wpAnyH_take (i := 5) (v := ?_) rfl (by kernel_rfl) (by kernel_rfl) (by kernel_rfl) (fun _ _ _ h => h) (Or.inl ⟨by rfl, ?_⟩) hHeld ?_
                          rotate_left
                          · intro w hSw
                            try dsimp only at hSw
                            go_simp
                            try with_reducible rfl
                          try simp only [Act.put, List.getElem_toArray, List.getElem_cons_succ, List.getElem_cons_zero, Array.getInternal_eq_getElem, List.setIfInBounds_toArray, List.set_cons_zero, List.set_cons_succ]
                          refine wpAnyH_take (i := 6) (v := ?_) rfl (by kernel_rfl) (by kernel_rfl) (by kernel_rfl) (fun _ _ _ h => h) (Or.inl ⟨by rfl, ?_⟩) hHeld ?_
                          rotate_left
                          · intro w hSw
                            try dsimp only at hSw
                            go_simp
                            try with_reducible rfl
                          try simp only [Act.put, List.getElem_toArray, List.getElem_cons_succ, List.getElem_cons_zero, Array.getInternal_eq_getElem, List.setIfInBounds_toArray, List.set_cons_zero, List.set_cons_succ]
                          refine wpAnyH_take (i := 7) (v := ?_) rfl (by kernel_rfl) (by kernel_rfl) (by kernel_rfl) (fun _ _ _ h => h) (Or.inl ⟨by rfl, ?_⟩) hHeld ?_
                          rotate_left
                          · intro w hSw
                            try dsimp only at hSw
                            go_simp
                            try with_reducible rfl
                          try simp only [Act.put, List.getElem_toArray, List.getElem_cons_succ, List.getElem_cons_zero, Array.getInternal_eq_getElem, List.setIfInBounds_toArray, List.set_cons_zero, List.set_cons_succ]
                          refine wpAnyH_take (i := 8) (v := ?_) rfl (by kernel_rfl) (by kernel_rfl) (by kernel_rfl) (fun _ _ _ h => h) (Or.inl ⟨by rfl, ?_⟩) hHeld ?_
                          rotate_left
                          · intro w hSw
                            try dsimp only at hSw
                            go_simp
                            try with_reducible rfl
                          try simp only [Act.put, List.getElem_toArray, List.getElem_cons_succ, List.getElem_cons_zero, Array.getInternal_eq_getElem, List.setIfInBounds_toArray, List.set_cons_zero, List.set_cons_succ]
                          refine wpAnyH_take (i := 9) (v := ?_) rfl (by kernel_rfl) (by kernel_rfl) (by kernel_rfl) (fun _ _ _ h => h) (Or.inl ⟨by rfl, ?_⟩) hHeld ?_
                          rotate_left
                          · intro w hSw
                            try dsimp only at hSw
                            go_simp
                            try with_reducible rfl
                          try simp only [Act.put, List.getElem_toArray, List.getElem_cons_succ, List.getElem_cons_zero, Array.getInternal_eq_getElem, List.setIfInBounds_toArray, List.set_cons_zero, List.set_cons_succ]
                          refine wpAnyH_ready (rs := [1, 10]) (by kernel_rfl) (by simp) ?_
                          refine AllReadyH.cons rfl (fun K hK => ?_) ?_
                          · go_simp
                            refine hK.out _ _ ⟨z0, z1, z2, z3, z4, z5, z6, z7, z8, z9, z10⟩ (fun hHeld => ?_)
                            clear hK K
                            try simp only [Act.put, List.getElem_toArray, List.getElem_cons_succ, List.getElem_cons_zero, Array.getInternal_eq_getElem, List.setIfInBounds_toArray, List.set_cons_zero, List.set_cons_succ]
                            refine wpAnyH_ready (rs := [10]) (by kernel_rfl) (by simp) ?_
                            refine AllReadyH.cons rfl (fun K hK => ?_) (AllReadyH.nil)
                            go_simp
                            refine hK.out _ _ ⟨k0, k1, k2, k3, k4, k5, k6, k7, k8, k9, k10⟩ (fun hHeld => ?_)
                            clear hK K
                            try simp only [Act.put, List.getElem_toArray, List.getElem_cons_succ, List.getElem_cons_zero, Array.getInternal_eq_getElem, List.setIfInBounds_toArray, List.set_cons_zero, List.set_cons_succ]
                            refine wpAnyH_ready (rs := [11]) (by kernel_rfl) (by simp) ?_
                            refine AllReadyH.cons rfl (fun K hK => ?_) (AllReadyH.nil)
                            refine step_pushF wd.drew rfl (.tmp 112) (.tmp 121) rfl (w5.heap.size + 1) sb2.a' y2.adds.length sb2.c' y2.adds (by simp [Act.eval]) HD.out.1.fs f wd.heap.size rfl (by simp [Act.eval]) (by omega) hbg1 ?_
                            intro a8 c8 w8 ho8 hb8 hg8
                            have HB8 : Hid (Bk w5 (y2.addF f) ⟨sb2.a, sb2.c, a8, c8⟩ (w8.setCell ⟨w5.heap.size, 4, none⟩ (.slice a8 (y2.adds.length + 1) c8)) ∧ Box w8 p12 TG (gA d) ∧ Box w8 w5.heap.size TE (eA y2 sb2) ∧ Below w5.heap.size w5 w8) := ⟨HD.out.1.pushF ho8 hb8 _ hg8, HD.out.2.kept (by rw [(Chg.grown hg8).block p12 (by simp; omega) (fun e' => tag_ne (HD.out.1.fs.tag e') HD.out.2.tag (by decide) rfl)]; exact Below.heap_alloc _ _ _ hp12d), HD.out.1.var.kept (hb8.block _ (Nat.lt_succ_self _)), HD.out.1.base.trans (hb8.mono (Nat.le_succ _))⟩
                            have x4 : w8.cell? ⟨w5.heap.size, 4, none⟩ = some (.slice sb2.a' y2.adds.length sb2.c') := HB8.out.2.2.1.five.2.2.2.2
                            have xs := HB8.out.2.2.1.soft 4
                            obtain ⟨m0, m1, m2, m3, m4, m5, m6, m7, m8, m9, m10⟩ : w8.cell? ⟨p12, 0, none⟩ = some (.int .i64 d.level) ∧ w8.cell? ⟨p4, nl, none⟩ = some (.slice (s.a nl) (v nl).length (s.c nl)) ∧ w8.cell? ⟨bf, of, none⟩ = some (.int .i64 f.level) ∧ w8.cell? ⟨bf, of + 1, none⟩ = some (.int .u64 (f.num : Int)) ∧ w8.cell? ⟨bf, of + 2, none⟩ = some (.int .i64 f.size) ∧ w8.cell? ⟨bf, of + 3, none⟩ = some (.string f.small.user) ∧ w8.cell? ⟨bf, of + 4, none⟩ = some (.int .u64 (f.small.seq : Int)) ∧ w8.cell? ⟨bf, of + 5, none⟩ = some (.int .i64 f.small.kind) ∧ w8.cell? ⟨bf, of + 6, none⟩ = some (.string f.large.user) ∧ w8.cell? ⟨bf, of + 7, none⟩ = some (.int .u64 (f.large.seq : Int)) ∧ w8.cell? ⟨bf, of + 8, none⟩ = some (.int .i64 f.large.kind) := by
                              have h9 := HFC.out w8 HB8.out.2.2.2
                              exact ⟨HB8.out.2.1.two.1, (H5.out.1.box.kept (HB8.out.2.2.2.block _ hp45)).level hnl4, h9.c0, h9.c1, h9.c2, h9.c3, h9.c4, h9.c5, h9.c6, h9.c7, h9.c8⟩
                            obtain ⟨n0, n1, n2, n3, n4, n5, n6, n7, n8, n9, n10⟩ : (w8.setCell ⟨w5.heap.size, 4, none⟩ (.slice a8 (y2.adds.length + 1) c8)).cell? ⟨p12, 0, none⟩ = some (.int .i64 d.level) ∧ (w8.setCell ⟨w5.heap.size, 4, none⟩ (.slice a8 (y2.adds.length + 1) c8)).cell? ⟨p4, nl, none⟩ = some (.slice (s.a nl) (v nl).length (s.c nl)) ∧ (w8.setCell ⟨w5.heap.size, 4, none⟩ (.slice a8 (y2.adds.length + 1) c8)).cell? ⟨bf, of, none⟩ = some (.int .i64 f.level) ∧ (w8.setCell ⟨w5.heap.size, 4, none⟩ (.slice a8 (y2.adds.length + 1) c8)).cell? ⟨bf, of + 1, none⟩ = some (.int .u64 (f.num : Int)) ∧ (w8.setCell ⟨w5.heap.size, 4, none⟩ (.slice a8 (y2.adds.length + 1) c8)).cell? ⟨bf, of + 2, none⟩ = some (.int .i64 f.size) ∧ (w8.setCell ⟨w5.heap.size, 4, none⟩ (.slice a8 (y2.adds.length + 1) c8)).cell? ⟨bf, of + 3, none⟩ = some (.string f.small.user) ∧ (w8.setCell ⟨w5.heap.size, 4, none⟩ (.slice a8 (y2.adds.length + 1) c8)).cell? ⟨bf, of + 4, none⟩ = some (.int .u64 (f.small.seq : Int)) ∧ (w8.setCell ⟨w5.heap.size, 4, none⟩ (.slice a8 (y2.adds.length + 1) c8)).cell? ⟨bf, of + 5, none⟩ = some (.int .i64 f.small.kind) ∧ (w8.setCell ⟨w5.heap.size, 4, none⟩ (.slice a8 (y2.adds.length + 1) c8)).cell? ⟨bf, of + 6, none⟩ = some (.string f.large.user) ∧ (w8.setCell ⟨w5.heap.size, 4, none⟩ (.slice a8 (y2.adds.length + 1) c8)).cell? ⟨bf, of + 7, none⟩ = some (.int .u64 (f.large.seq : Int)) ∧ (w8.setCell ⟨w5.heap.size, 4, none⟩ (.slice a8 (y2.adds.length + 1) c8)).cell? ⟨bf, of + 8, none⟩ = some (.int .i64 f.large.kind) := by
                              have h9 := HFC.out _ HB8.out.1.base
                              exact ⟨(HB8.out.2.1.other hn2.symm _ _).two.1, (H5.out.1.box.kept (HB8.out.1.base.block _ hp45)).level hnl4, h9.c0, h9.c1, h9.c2, h9.c3, h9.c4, h9.c5, h9.c6, h9.c7, h9.c8⟩
                            clear ho8 hb8 hg8
                            refine hK.out _ _ ⟨m0, m1, m2, m3, m4, m5, m6, m7, m8, m9, m10⟩ (fun hHeld => ?_)
                            clear hK K
                            try simp only [Act.put, List.getElem_toArray, List.getElem_cons_succ, List.getElem_cons_zero, Array.getInternal_eq_getElem, List.setIfInBounds_toArray, List.set_cons_zero, List.set_cons_succ]
                            refine wpAnyH_take (i := 12) (v := ?_) rfl (by kernel_rfl) (by kernel_rfl) (by kernel_rfl) (fun _ _ _ h => h) (Or.inl ⟨by rfl, ?_⟩) hHeld ?_
                            rotate_left
                            · intro w hSw
                              try dsimp only at hSw
                              go_simp
                              try with_reducible rfl
                            try simp only [Act.put, List.getElem_toArray, List.getElem_cons_succ, List.getElem_cons_zero, Array.getInternal_eq_getElem, List.setIfInBounds_toArray, List.set_cons_zero, List.set_cons_succ]
                            refine wpAnyH_ready (rs := [13]) (by kernel_rfl) (by simp) ?_
                            refine AllReadyH.cons rfl (fun K hK => ?_) (AllReadyH.nil)
                            go_simp
                            refine hK.out _ _ ⟨n0, n1, n2, n3, n4, n5, n6, n7, n8, n9, n10⟩ (fun hHeld => ?_)
                            clear hK K
                            try simp only [Act.put, List.getElem_toArray, List.getElem_cons_succ, List.getElem_cons_zero, Array.getInternal_eq_getElem, List.setIfInBounds_toArray, List.set_cons_zero, List.set_cons_succ]
                            refine wpAnyH_done (by kernel_rfl) ?_ _
                            have HB9 : Hid (Bk w5 (y2.addF f) ⟨sb2.a, sb2.c, a8, c8⟩ (w8.setCell ⟨w5.heap.size, 4, none⟩ (.slice a8 (y2.adds.length + 1) c8)) ∧ Box (w8.setCell ⟨w5.heap.size, 4, none⟩ (.slice a8 (y2.adds.length + 1) c8)) p12 TG (gA d)) := ⟨HB8.out.1, HB8.out.2.1.other hn2.symm _ _⟩
                            generalize w8.setCell ⟨w5.heap.size, 4, none⟩ (.slice a8 (y2.adds.length + 1) c8) = w9 at HB9 ⊢
                            clear HB8 x4 xs m0 m1 m2 m3 m4 m5 m6 m7 m8 m9 m10 n0 n1 n2 n3 n4 n5 n6 n7 n8 n9 n10 z0 z1 z2 z3 z4 z5 z6 z7 z8 z9 z10 k0 k1 k2 k3 k4 k5 k6 k7 k8 k9 k10 h4a h4b h4c
                            go_wp2
                            go_roundw
                            case rel =>
                              refine ⟨j + 1, _, _, hj, by go_num, HB9.out.1, HB9.out.2, ?_⟩
                              rw [HT2.out, HJ.out.2.2, List.filter_append]
                              simp [HQN.out, PE.addF]
                            case measure => simp only [intOf]; omega
                          refine AllReadyH.cons rfl (fun K hK => ?_) (AllReadyH.nil)
                          go_simp
                          refine hK.out _ _ ⟨k0, k1, k2, k3, k4, k5, k6, k7, k8, k9, k10⟩ (fun hHeld => ?_)
                          clear hK K
                          try simp only [Act.put, List.getElem_toArray, List.getElem_cons_succ, List.getElem_cons_zero, Array.getInternal_eq_getElem, List.setIfInBounds_toArray, List.set_cons_zero, List.set_cons_succ]
                          refine wpAnyH_ready (rs := [1]) (by kernel_rfl) (by simp) ?_
                          refine AllReadyH.cons rfl (fun K hK => ?_) (AllReadyH.nil)
                          go_simp
                          refine hK.out _ _ ⟨k0, k1, k2, k3, k4, k5, k6, k7, k8, k9, k10⟩ (fun hHeld => ?_)
                          clear hK K
                          try simp only [Act.put, List.getElem_toArray, List.getElem_cons_succ, List.getElem_cons_zero, Array.getInternal_eq_getElem, List.setIfInBounds_toArray, List.set_cons_zero, List.set_cons_succ]
                          refine wpAnyH_ready (rs := [11]) (by kernel_rfl) (by simp) ?_
                          refine AllReadyH.cons rfl (fun K hK => ?_) (AllReadyH.nil)
                          refine step_pushF wd.drew rfl (.tmp 112) (.tmp 121) rfl (w5.heap.size + 1) sb2.a' y2.adds.length sb2.c' y2.adds (by simp [Act.eval]) HD.out.1.fs f wd.heap.size rfl (by simp [Act.eval]) (by omega) hbg1 ?_
                          intro a8 c8 w8 ho8 hb8 hg8
                          have HB8 : Hid (Bk w5 (y2.addF f) ⟨sb2.a, sb2.c, a8, c8⟩ (w8.setCell ⟨w5.heap.size, 4, none⟩ (.slice a8 (y2.adds.length + 1) c8)) ∧ Box w8 p12 TG (gA d) ∧ Box w8 w5.heap.size TE (eA y2 sb2) ∧ Below w5.heap.size w5 w8) := ⟨HD.out.1.pushF ho8 hb8 _ hg8, HD.out.2.kept (by rw [(Chg.grown hg8).block p12 (by simp; omega) (fun e' => tag_ne (HD.out.1.fs.tag e') HD.out.2.tag (by decide) rfl)]; exact Below.heap_alloc _ _ _ hp12d), HD.out.1.var.kept (hb8.block _ (Nat.lt_succ_self _)), HD.out.1.base.trans (hb8.mono (Nat.le_succ _))⟩
                          have x4 : w8.cell? ⟨w5.heap.size, 4, none⟩ = some (.slice sb2.a' y2.adds.length sb2.c') := HB8.out.2.2.1.five.2.2.2.2
                          have xs := HB8.out.2.2.1.soft 4
                          obtain ⟨m0, m1, m2, m3, m4, m5, m6, m7, m8, m9, m10⟩ : w8.cell? ⟨p12, 0, none⟩ = some (.int .i64 d.level) ∧ w8.cell? ⟨p4, nl, none⟩ = some (.slice (s.a nl) (v nl).length (s.c nl)) ∧ w8.cell? ⟨bf, of, none⟩ = some (.int .i64 f.level) ∧ w8.cell? ⟨bf, of + 1, none⟩ = some (.int .u64 (f.num : Int)) ∧ w8.cell? ⟨bf, of + 2, none⟩ = some (.int .i64 f.size) ∧ w8.cell? ⟨bf, of + 3, none⟩ = some (.string f.small.user) ∧ w8.cell? ⟨bf, of + 4, none⟩ = some (.int .u64 (f.small.seq : Int)) ∧ w8.cell? ⟨bf, of + 5, none⟩ = some (.int .i64 f.small.kind) ∧ w8.cell? ⟨bf, of + 6, none⟩ = some (.string f.large.user) ∧ w8.cell? ⟨bf, of + 7, none⟩ = some (.int .u64 (f.large.seq : Int)) ∧ w8.cell? ⟨bf, of + 8, none⟩ = some (.int .i64 f.large.kind) := by
                            have h9 := HFC.out w8 HB8.out.2.2.2
                            exact ⟨HB8.out.2.1.two.1, (H5.out.1.box.kept (HB8.out.2.2.2.block _ hp45)).level hnl4, h9.c0, h9.c1, h9.c2, h9.c3, h9.c4, h9.c5, h9.c6, h9.c7, h9.c8⟩
                          obtain ⟨n0, n1, n2, n3, n4, n5, n6, n7, n8, n9, n10⟩ : (w8.setCell ⟨w5.heap.size, 4, none⟩ (.slice a8 (y2.adds.length + 1) c8)).cell? ⟨p12, 0, none⟩ = some (.int .i64 d.level) ∧ (w8.setCell ⟨w5.heap.size, 4, none⟩ (.slice a8 (y2.adds.length + 1) c8)).cell? ⟨p4, nl, none⟩ = some (.slice (s.a nl) (v nl).length (s.c nl)) ∧ (w8.setCell ⟨w5.heap.size, 4, none⟩ (.slice a8 (y2.adds.length + 1) c8)).cell? ⟨bf, of, none⟩ = some (.int .i64 f.level) ∧ (w8.setCell ⟨w5.heap.size, 4, none⟩ (.slice a8 (y2.adds.length + 1) c8)).cell? ⟨bf, of + 1, none⟩ = some (.int .u64 (f.num : Int)) ∧ (w8.setCell ⟨w5.heap.size, 4, none⟩ (.slice a8 (y2.adds.length + 1) c8)).cell? ⟨bf, of + 2, none⟩ = some (.int .i64 f.size) ∧ (w8.setCell ⟨w5.heap.size, 4, none⟩ (.slice a8 (y2.adds.length + 1) c8)).cell? ⟨bf, of + 3, none⟩ = some (.string f.small.user) ∧ (w8.setCell ⟨w5.heap.size, 4, none⟩ (.slice a8 (y2.adds.length + 1) c8)).cell? ⟨bf, of + 4, none⟩ = some (.int .u64 (f.small.seq : Int)) ∧ (w8.setCell ⟨w5.heap.size, 4, none⟩ (.slice a8 (y2.adds.length + 1) c8)).cell? ⟨bf, of + 5, none⟩ = some (.int .i64 f.small.kind) ∧ (w8.setCell ⟨w5.heap.size, 4, none⟩ (.slice a8 (y2.adds.length + 1) c8)).cell? ⟨bf, of + 6, none⟩ = some (.string f.large.user) ∧ (w8.setCell ⟨w5.heap.size, 4, none⟩ (.slice a8 (y2.adds.length + 1) c8)).cell? ⟨bf, of + 7, none⟩ = some (.int .u64 (f.large.seq : Int)) ∧ (w8.setCell ⟨w5.heap.size, 4, none⟩ (.slice a8 (y2.adds.length + 1) c8)).cell? ⟨bf, of + 8, none⟩ = some (.int .i64 f.large.kind) := by
                            have h9 := HFC.out _ HB8.out.1.base
                            exact ⟨(HB8.out.2.1.other hn2.symm _ _).two.1, (H5.out.1.box.kept (HB8.out.1.base.block _ hp45)).level hnl4, h9.c0, h9.c1, h9.c2, h9.c3, h9.c4, h9.c5, h9.c6, h9.c7, h9.c8⟩
                          clear ho8 hb8 hg8
                          refine hK.out _ _ ⟨m0, m1, m2, m3, m4, m5, m6, m7, m8, m9, m10⟩ (fun hHeld => ?_)
                          clear hK K
                          try simp only [Act.put, List.getElem_toArray, List.getElem_cons_succ, List.getElem_cons_zero, Array.getInternal_eq_getElem, List.setIfInBounds_toArray, List.set_cons_zero, List.set_cons_succ]
                          refine wpAnyH_take (i := 12) (v := ?_) rfl (by kernel_rfl) (by kernel_rfl) (by kernel_rfl) (fun _ _ _ h => h) (Or.inl ⟨by rfl, ?_⟩) hHeld ?_
                          rotate_left
                          · intro w hSw
                            try dsimp only at hSw
                            go_simp
                            try with_reducible rfl
                          try simp only [Act.put, List.getElem_toArray, List.getElem_cons_succ, List.getElem_cons_zero, Array.getInternal_eq_getElem, List.setIfInBounds_toArray, List.set_cons_zero, List.set_cons_succ]
                          refine wpAnyH_ready (rs := [13]) (by kernel_rfl) (by simp) ?_
                          refine AllReadyH.cons rfl (fun K hK => ?_) (AllReadyH.nil)
                          go_simp
                          refine hK.out _ _ ⟨n0, n1, n2, n3, n4, n5, n6, n7, n8, n9, n10⟩ (fun hHeld => ?_)
                          clear hK K
                          try simp only [Act.put, List.getElem_toArray, List.getElem_cons_succ, List.getElem_cons_zero, Array.getInternal_eq_getElem, List.setIfInBounds_toArray, List.set_cons_zero, List.set_cons_succ]
                          refine wpAnyH_done (by kernel_rfl) ?_ _
                          have HB9 : Hid (Bk w5 (y2.addF f) ⟨sb2.a, sb2.c, a8, c8⟩ (w8.setCell ⟨w5.heap.size, 4, none⟩ (.slice a8 (y2.adds.length + 1) c8)) ∧ Box (w8.setCell ⟨w5.heap.size, 4, none⟩ (.slice a8 (y2.adds.length + 1) c8)) p12 TG (gA d)) := ⟨HB8.out.1, HB8.out.2.1.other hn2.symm _ _⟩
                          generalize w8.setCell ⟨w5.heap.size, 4, none⟩ (.slice a8 (y2.adds.length + 1) c8) = w9 at HB9 ⊢
                          clear HB8 x4 xs m0 m1 m2 m3 m4 m5 m6 m7 m8 m9 m10 n0 n1 n2 n3 n4 n5 n6 n7 n8 n9 n10 z0 z1 z2 z3 z4 z5 z6 z7 z8 z9 z10 k0 k1 k2 k3 k4 k5 k6 k7 k8 k9 k10 h4a h4b h4c
                          go_wp2
                          go_roundw
                          case rel =>
                            refine ⟨j + 1, _, _, hj, by go_num, HB9.out.1, HB9.out.2, ?_⟩
                            rw [HT2.out, HJ.out.2.2, List.filter_append]
                            simp [HQN.out, PE.addF]
                          case measure => simp only [intOf]; omega
                        · have hqb : (((f.num : Nat) : Int) == ((d.num : Nat) : Int)) = false := beq_eq_false_iff_ne.2 (by omega)
                          have HQN : Hid (f.num ≠ d.num) := hq
                          clear hq
                          go_upto_region 25 with fail
                          go_quiet (fail)
                          have H7 : Hid (Bk w5 y2 sb2 (wr.drewN nq) ∧ Box (wr.drewN nq) p12 TG (gA d)) := ⟨HJ.out.1.call ⟨rfl, rfl, rfl, Nat.le_refl _, fun _ _ => rfl⟩, HJ.out.2.1⟩
                          go_wp2
                          go_roundw
                          case rel =>
                            refine ⟨j + 1, y2, sb2, hj, by go_num, H7.out.1, H7.out.2, ?_⟩
                            rw [HT2.out, HJ.out.2.2, List.filter_append]
                            simp [HQN.out]
                          case measure => simp only [intOf]; omega
                      · have hjI : ¬ (j : Int) < ((v nl).length : Int) := by omega
                        have H7 : Hid (Bk w5 y2 sb2 wr ∧ y2 = ⟨0, 0, 0, x.adds.map fun f => ⟨f.level, f.num⟩, ((x.dels.take (k + 1)).flatMap fun d => (v d.level.toNat).filter fun f => decide (f.num = d.num))⟩) := ⟨HJ.out.1, by
                          rw [HJ.out.2.2, HT.out, List.take_of_length_le (l := v nl) (i := j) (by omega), List.flatMap_append, HNL.out]
                          simp⟩
                        go_wp2
                        go_roundw
                        case rel => exact ⟨k + 1, y2, sb2, hk, by go_num, H7.out⟩
                        case measure => simp only [intOf]; omega
                  · have hkI : ¬ (k : Int) < (x.dels.length : Int) := by omega
                    have HQ3 : Hid (Bk w5 y sb wr ∧ y = back v x) := ⟨HQ.out.1, by rw [HQ.out.2, List.take_of_length_le (by omega)]; rfl⟩
                    have HP6 : Hid (Box wr p6 TVn (vA u t) ∧ OwnV wr (p4 + 1) u t ∧ Kr w p4 v s i wr) := by
                      have hbx := HQ3.out.1.base
                      exact ⟨H5.out.2.1.kept (hbx.block _ hp65), H5.out.2.2.below hbx, H5.out.1.later hbx⟩
                    obtain ⟨g0, g1, g2, g3, g4⟩ := HQ3.out.1.var.five
                    obtain ⟨c0, c1, c2, c3⟩ := HP6.out.1.fourV
                    obtain ⟨e0, e1, e2, e3⟩ := HP6.out.2.2.box.fourV
                    have es := HP6.out.2.2.box.soft
                    go_upto_region 27 with fail
                    clear HQ q3 q4 HW
                    by_cases h100 : y.adds.length ≤ 100
                    · have h100I : ¬ (100 : Int) < (y.adds.length : Int) := by omega
                      obtain ⟨u2, ha2, he2⟩ := keeps HR.out (by rw [← HQ3.out.2]; exact h100)
                      have hap := vapply_any u t y sb wr HP6.out.2.1.at ⟨HQ3.out.1.gs.gs, HQ3.out.1.fs.fs⟩ HU.out.2.1 (by rw [HQ3.out.2]; exact back_wf HP6.out.2.2.wf HP6.out.2.2.ok HDE.out) (by have := HU.out.2.2.1; have := HP6.out.2.2.few; omega)
                      rw [show applyV u y = (0, u2) by rw [HQ3.out.2]; exact ha2] at hap
                      have HS : Hid (∀ n, n < 4 → u2 n = v n) := he2
                      clear ha2 he2
                      go_wp2_with fail
                      refine hap.mono ?_
                      rintro _ w10 ⟨t2, rfl, ho10, hb10⟩
                      have H10 : Hid (Box w10 p6 TVn (vA u t) ∧ OwnV w10 (p4 + 1) u t ∧ Kr w p4 v s i w10 ∧ VnAt w10 u2 t2) := ⟨HP6.out.1.kept (hb10.block _ HP6.out.1.lt), HP6.out.2.1.below hb10, HP6.out.2.2.later hb10, ho10.at⟩
                      clear ho10 hb10 hap g0 g1 g2 g3 g4 c0 c1 c2 c3 e0 e1 e2 e3 es
                      obtain ⟨W11, e11, H11⟩ : ∃ W11, W11 = w10.alloc (.cells #[.slice (t2.a 0) (u2 0).length (t2.c 0), .slice (t2.a 1) (u2 1).length (t2.c 1), .slice (t2.a 2) (u2 2).length (t2.c 2), .slice (t2.a 3) (u2 3).length (t2.c 3)] TVn) ∧ Hid (Box W11 p6 TVn (vA u t) ∧ OwnV W11 (p4 + 1) u t ∧ Kr w p4 v s i W11 ∧ VnAt W11 u2 t2 ∧ Box W11 w10.heap.size TVn (vA u2 t2)) := by
                        have hb : Below w10.heap.size w10 (w10.alloc (.cells (vA u2 t2) TVn)) := (Below.refl _ _).alloc (Nat.le_refl _) _
                        exact ⟨_, rfl, H10.out.1.kept (hb.block _ H10.out.1.lt), H10.out.2.1.below hb, H10.out.2.2.1.later hb, H10.out.2.2.2.below hb, Box.new _ _ _⟩
                      go_upto_region 30 with fail
                      rw [← e11]
                      generalize w10.heap.size = p14 at H11 ⊢
                      clear e11 H10
                      obtain ⟨c0, c1, c2, c3⟩ := H11.out.2.2.2.2.fourV
                      obtain ⟨e0, e1, e2, e3⟩ := H11.out.2.2.1.box.fourV
                      have hsm := vsame_eq H11.out.2.2.2.1 H11.out.2.2.1.own.at HS.out
                      go_wp2_with fail
                      refine hsm.mono ?_
                      rintro _ w12 ⟨rfl, hb12⟩
                      have H12 : Hid (Box w12 p6 TVn (vA u t) ∧ OwnV w12 (p4 + 1) u t ∧ Kr w p4 v s i w12) := ⟨H11.out.1.kept (hb12.block _ H11.out.1.lt), H11.out.2.1.below hb12, H11.out.2.2.1.later hb12⟩
                      clear c0 c1 c2 c3 e0 e1 e2 e3 hsm hb12 H11
                      obtain ⟨c0, c1, c2, c3⟩ := H12.out.1.fourV
                      obtain ⟨e0, e1, e2, e3⟩ := H12.out.2.2.box.fourV
                      have es := H12.out.2.2.box.soft
                      have H13 := H12.out.2.2.move H12.out.2.1 HU.out.1 HU.out.2.1 HU.out.2.2.1
                      have H14 : Hid (Kr w p4 u t (i + 1) _) := H13
                      clear H13
                      go_wp2
                      go_roundw
                      case rel => exact ⟨i + 1, u, t, hi, by go_num, H14.out⟩
                      case measure => simp only [intOf]; omega
                    · have h100I : (100 : Int) < (y.adds.length : Int) := by omega
                      have H13 := HP6.out.2.2.move HP6.out.2.1 HU.out.1 HU.out.2.1 HU.out.2.2.1
                      have H14 : Hid (Kr w p4 u t (i + 1) _) := H13
                      clear H13
                      go_wp2
                      go_roundw
                      case rel => exact ⟨i + 1, u, t, hi, by go_num, H14.out⟩
                      case measure => simp only [intOf]; omega
          · have hrb : ((r : Nat) : Int) ≠ 0 := by omega
            have H2 : Hid (Kr w p4 v s (i + 1) wc) := (HI.out.later HO.out.below).next
            clear HR HO
            go_wp2
            go_roundw
            case rel => exact ⟨i + 1, v, s, hi, by go_num, H2.out⟩
            case measure => simp only [intOf]; omega
      · have H2 : Hid (Below w.heap.size w wr) := HI.out.below
        go_wp2
        go_ret
        exact ⟨rfl, H2.out⟩
end Go.Proofs.Ytcdfgcjecmpjhaa
