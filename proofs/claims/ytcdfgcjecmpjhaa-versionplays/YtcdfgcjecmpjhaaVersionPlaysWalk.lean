/- The walk of VersionPlays. -/
import Derived.Test.YtcdfgcjecmpjhaaV14Awake
import Derived.Test.YtcdfgcjecmpjhaaV14Bk
import Derived.Test.YtcdfgcjecmpjhaaV14Args
import Derived.Test.YtcdfgcjecmpjhaaV14RSame
import Derived.Test.YtcdfgcjecmpjhaaV14RJ
import Derived.Deep.DeepCutAuto
import Derived.Deep.RegionHeld3
import Derived.BigQuiet
namespace Go.Proofs.Ytcdfgcjecmpjhaa
open Go.RowKit
set_option linter.unusedVariables false
set_option linter.unusedSimpArgs false

/-- Two versions that are the same, in two variables: the program's and the document's own. -/
structure Pl (w : World) (p6 : Nat) (u : PV) (sv sr : SV) (V : World) : Prop where
  below : Below w.heap.size w V
  bv : Box V w.heap.size TVn (vA u sv)
  br : Box V p6 TVn (vA u sr)
  av : VnAt V u sv
  ar : VnAt V u sr
  ge : w.heap.size < p6
theorem Pl.later {w V V' : World} {p6 : Nat} {u : PV} {sv sr : SV} (h : Pl w p6 u sv sr V) (hb : Below V.heap.size V V') : Pl w p6 u sv sr V' := ⟨h.below.trans (hb.mono h.below.size), h.bv.kept (hb.block _ h.bv.lt), h.br.kept (hb.block _ h.br.lt), h.av.below hb, h.ar.below hb, h.ge⟩
/-- A version is stored into a variable. -/
structure F4 (V : World) (p : Nat) (y : PV) (t : SV) (Z : World) : Prop where
  chg : Chg (fun k => k = p) V Z
  box : Box Z p TVn (vA y t)
theorem F4.of {V : World} {p : Nat} {u : PV} {s : SV} (hb : Box V p TVn (vA u s)) (y : PV) (t : SV) : F4 V p y t ((((V.setCell ⟨p, 0, none⟩ (.slice (t.a 0) (y 0).length (t.c 0))).setCell ⟨p, 1, none⟩ (.slice (t.a 1) (y 1).length (t.c 1))).setCell ⟨p, 2, none⟩ (.slice (t.a 2) (y 2).length (t.c 2))).setCell ⟨p, 3, none⟩ (.slice (t.a 3) (y 3).length (t.c 3))) :=
  ⟨((((Chg.refl (fun k => k = p) V).set (fun _ => rfl) _ _).set (fun _ => rfl) _ _).set (fun _ => rfl) _ _).set (fun _ => rfl) _ _, ((((hb.set 0 _).set 1 _).set 2 _).set 3 _).eq rfl⟩
theorem F4.own {V Z : World} {p : Nat} {y : PV} {t : SV} (h : F4 V p y t Z) {B : Nat} (hB : p < B) {v : PV} {s : SV} (hv : OwnV V B v s) : OwnV Z B v s := fun n hn => (hv n hn).kept (fun g hg => h.chg.block _ (tag_lt ((hv n hn).tag hg)) (fun e => by have := (hv n hn).ge hg; omega))
theorem Pl.move {w V W9 Z : World} {p6 : Nat} {u y : PV} {sv sr ta tb : SV} (h : Pl w p6 u sv sr V) (h1 : F4 V w.heap.size y ta W9) (h2 : F4 W9 p6 y tb Z) {B : Nat} (hB : p6 < B) (oa : OwnV V B y ta) (ob : OwnV V B y tb) : Pl w p6 y ta tb Z := by
  have hg := h.ge
  have b1 := h.below.trans (h1.chg.below (fun k hk => by omega) h.below.size)
  exact ⟨b1.trans (h2.chg.below (fun k hk => by omega) b1.size), h1.box.kept (h2.chg.block _ h1.box.lt (by omega)), h2.box, (h2.own hB (h1.own (by omega) oa)).at, (h2.own hB (h1.own (by omega) ob)).at, hg⟩
set_option maxRecDepth 100000 in
set_option maxHeartbeats 16000000 in
theorem versionPlays_walk (v : PV) (s : SV) (a : Option Addr) (n c : Nat) (l : List (PE × SE)) (w : World) (hv : VnAt w v s) (hwf : WfV v) (hlen : ∀ n, n < 4 → (v n).length * 88 ≤ 140737488351232) (h : EsAt w a n c l) (hn : n * 72 ≤ 140737488351232) :
    Calls Try.prog 4 #[.agg #[.slice (s.a 0) (v 0).length (s.c 0), .slice (s.a 1) (v 1).length (s.c 1), .slice (s.a 2) (v 2).length (s.c 2), .slice (s.a 3) (v 3).length (s.c 3)], .slice a n c] w fun e w' => e = .returned (.bool true) ∧ Below w.heap.size w w' := by
  have HV : Hid (EsAt w a n c l) := h
  have HVV : Hid (VnAt w v s ∧ WfV v ∧ ∀ n, n < 4 → (v n).length ≤ 2000000000000) := ⟨hv, hwf, fun n hn => by have := hlen n hn; omega⟩
  have hlc := h.row.le
  have hmx := h.row.max
  unfold maxLen at hmx
  have HB0 : Hid (Below w.heap.size w (w.alloc (.cells (vA v s) TVn)) ∧ Box (w.alloc (.cells (vA v s) TVn)) w.heap.size TVn (vA v s)) := ⟨(Below.refl _ _).alloc (Nat.le_refl _) _, Box.new _ _ _⟩
  clear h hv hwf hlen
  go_enter Try.func4, Try.ntmps4
  go_wp2_with fail
  refine (awake_any _).mono ?_
  rintro _ w1 ⟨rfl, hb1⟩
  have H1 : Hid (Below w.heap.size w w1 ∧ Box w1 w.heap.size TVn (vA v s)) := ⟨HB0.out.1.trans (hb1.mono HB0.out.1.size), HB0.out.2.kept (hb1.block _ HB0.out.2.lt)⟩
  clear hb1 HB0
  obtain ⟨c0, c1, c2, c3⟩ := H1.out.2.fourV
  go_wp2_with fail
  refine (many_any (HVV.out.1.below H1.out.1) HVV.out.2.2).mono ?_
  rintro _ w2 ⟨rfl, hb2⟩
  have H2 : Hid (Below w.heap.size w w2 ∧ Box w2 w.heap.size TVn (vA v s)) := ⟨H1.out.1.trans (hb2.mono H1.out.1.size), H1.out.2.kept (hb2.block _ H1.out.2.lt)⟩
  clear hb2 H1 c0 c1 c2 c3
  by_cases hmany : 1000 < v.all.length
  · rw [decide_eq_true hmany]
    go_wp2
    go_ret
    exact ⟨ret1 rfl, H2.out.1⟩
  rw [decide_eq_false hmany]
  have HFEW : Hid (v.all.length ≤ 1000) := by unfold Hid; omega
  clear hmany
  go_upto_if 21 with fail
  go_cut [1] (fun s1 wz => ∃ m : Nat, s1 = .slice a m c ∧ m ≤ 10 ∧ m ≤ n ∧ wz = w2)
  case first =>
    by_cases h10 : n ≤ 10
    · have h10b : ¬ (10 : Int) < (n : Int) := by omega
      go_wp2_with fail
      go_meet
      exact ⟨n, rfl, h10, Nat.le_refl _, rfl⟩
    · have h10b : (10 : Int) < (n : Int) := by omega
      have hc10 : (10 : Int) ≤ (c : Int) := by omega
      go_wp2_with fail
      go_meet
      exact ⟨10, by cases a <;> simp [Addr.add], Nat.le_refl _, by omega, rfl⟩
  case rest =>
    obtain ⟨m, rfl, hm10, hmn, rfl⟩ := hcut
    have HM : Hid (EsAt w a m c (l.take m)) := HV.out.take hmn
    generalize l.take m = l2 at HM
    clear HV
    have hml : (m : Int) ≤ 10 := by omega
    obtain ⟨c0, c1, c2, c3⟩ := H2.out.2.fourV
    go_wp2_with fail
    refine (rown_any v s wc (HVV.out.1.below H2.out.1) (by have := HFEW.out; omega)).mono ?_
    rintro _ w3 ⟨t6, rfl, ho3, hb3⟩
    obtain ⟨W4, eW, HK⟩ : ∃ W4, W4 = w3.alloc (.cells #[.slice (t6.a 0) (v 0).length (t6.c 0), .slice (t6.a 1) (v 1).length (t6.c 1), .slice (t6.a 2) (v 2).length (t6.c 2), .slice (t6.a 3) (v 3).length (t6.c 3)] TVn) ∧ Hid (Pl w w3.heap.size v s t6 W4) := by
      have hb : Below w3.heap.size w3 (w3.alloc (.cells (vA v t6) TVn)) := (Below.refl _ _).alloc (Nat.le_refl _) _
      have hB := H2.out.1.trans (hb3.mono H2.out.1.size)
      exact ⟨_, rfl, hB.alloc hB.size _, (H2.out.2.kept (hb3.block _ H2.out.2.lt)).alloc _, Box.new _ _ _, (HVV.out.1.below hB).below hb, (ho3.at).below hb, Nat.lt_of_lt_of_le H2.out.2.lt hb3.size⟩
    go_upto_region 7 with fail
    rw [← eW]
    clear c0 c1 c2 c3 ho3 hb3 H2
    generalize w3.heap.size = p6 at HK ⊢
    clear eW
    go_wp2_with fail
    go_loopw [7] (fun s7 wr => ∃ (i : Nat) (u : PV) (sv sr : SV), i ≤ m ∧ s7 = .int .i64 (i : Int) ∧ Hid (Pl w p6 u sv sr wr ∧ WfV u ∧ u.all.length ≤ 1000 + 100 * i)) (fun s7 _ => m - (intOf s7).toNat)
    case atStart => exact ⟨0, v, s, t6, Nat.zero_le _, rfl, HK.out, HVV.out.2.1, by have := HFEW.out; omega⟩
    case round =>
      obtain ⟨i, u, sv, sr, him, rfl, HI⟩ := hrel
      clear HK
      have HU : Hid (WfV u ∧ u.all.length ≤ 2000) := ⟨HI.out.2.1, by have := HI.out.2.2; omega⟩
      by_cases hi : i < m
      · have hil : i < l2.length := by rw [HM.out.size]; exact hi
        have hiI : (i : Int) < (m : Int) := by omega
        obtain ⟨be, oe, hix, hblt, hcs⟩ := HM.out.at hil
        obtain ⟨he1, he2, he3, he4⟩ := HM.out.each l2[i] (List.getElem_mem hil)
        have HE : Hid (EdAt w l2[i].1 l2[i].2 ∧ WfE l2[i].1 ∧ ∀ W : World, Below w.heap.size w W → E5 W be oe l2[i].1 l2[i].2) := ⟨he1, he2, hcs⟩
        clear hcs he1 he2 he3 he4
        generalize l2[i].2 = se at HE
        generalize l2[i].1 = x at HE
        obtain ⟨r, y, hru⟩ : ∃ (r : Nat) (y : PV), applyV u x = (r, y) := ⟨_, _, rfl⟩
        have HR : Hid (applyV u x = (r, y)) := hru
        clear hru
        obtain ⟨c0, c1, c2, c3⟩ := HI.out.1.bv.fourV
        go_wp2_with fail
        refine (rown_any u sv wr HI.out.1.av (by have := HU.out.2; omega)).mono ?_
        rintro _ w1 ⟨t8, rfl, ho1, hb1⟩
        obtain ⟨W2, eW, H2⟩ : ∃ W2, W2 = w1.alloc (.cells #[.slice (t8.a 0) (u 0).length (t8.c 0), .slice (t8.a 1) (u 1).length (t8.c 1), .slice (t8.a 2) (u 2).length (t8.c 2), .slice (t8.a 3) (u 3).length (t8.c 3)] TVn) ∧ Hid (Pl w p6 u sv sr W2 ∧ Box W2 w1.heap.size TVn (vA u t8) ∧ VnAt W2 u t8) := by
          have hb : Below w1.heap.size w1 (w1.alloc (.cells (vA u t8) TVn)) := (Below.refl _ _).alloc (Nat.le_refl _) _
          exact ⟨_, rfl, (HI.out.1.later hb1).later hb, Box.new _ _ _, (ho1.at).below hb⟩
        go_upto_region 11 with fail
        rw [← eW]
        clear c0 c1 c2 c3 ho1 hb1
        generalize w1.heap.size = p8 at H2 ⊢
        clear eW
        have hbw : be < W2.heap.size := Nat.lt_of_lt_of_le hblt H2.out.1.below.size
        have hpw : p8 < W2.heap.size := H2.out.2.1.lt
        have hne1 : p8 ≠ W2.heap.size := by omega
        have hne2 : be ≠ W2.heap.size := by omega
        have hne3 : W2.heap.size ≠ p8 := by omega
        have hne4 : W2.heap.size ≠ be := by omega
        have HAP : Hid (∀ V : World, Below W2.heap.size W2 V → Calls Try.prog 11 #[.agg #[.slice (t8.a 0) (u 0).length (t8.c 0), .slice (t8.a 1) (u 1).length (t8.c 1), .slice (t8.a 2) (u 2).length (t8.c 2), .slice (t8.a 3) (u 3).length (t8.c 3)], .agg #[.int .u64 (x.log : Int), .int .u64 (x.next : Int), .int .u64 (x.last : Int), .slice se.a x.dels.length se.c, .slice se.a' x.adds.length se.c']] V fun e w' => ∃ t : SV, e = .returned (.tuple #[.agg #[.slice (t.a 0) (y 0).length (t.c 0), .slice (t.a 1) (y 1).length (t.c 1), .slice (t.a 2) (y 2).length (t.c 2), .slice (t.a 3) (y 3).length (t.c 3)], .int .i64 ((r : Nat) : Int)]) ∧ Hid (OwnV w' V.heap.size y t) ∧ Below V.heap.size V w') := fun V hV => by
          have h0 := vapply_any u t8 x se V (H2.out.2.2.below hV) (HE.out.1.below (H2.out.1.below.trans (hV.mono H2.out.1.below.size))) HU.out.1 HE.out.2.1 (by have := HU.out.2; omega)
          rw [HR.out] at h0
          exact h0
        have HC : Hid (∀ V : World, Below W2.heap.size W2 V → (V.cell? ⟨p8, 0, none⟩ = some (.slice (t8.a 0) (u 0).length (t8.c 0)) ∧ V.cell? ⟨p8, 1, none⟩ = some (.slice (t8.a 1) (u 1).length (t8.c 1)) ∧ V.cell? ⟨p8, 2, none⟩ = some (.slice (t8.a 2) (u 2).length (t8.c 2)) ∧ V.cell? ⟨p8, 3, none⟩ = some (.slice (t8.a 3) (u 3).length (t8.c 3))) ∧ V.cell? ⟨be, oe, none⟩ = some (.int .u64 (x.log : Int)) ∧ V.cell? ⟨be, oe + 1, none⟩ = some (.int .u64 (x.next : Int)) ∧ V.cell? ⟨be, oe + 2, none⟩ = some (.int .u64 (x.last : Int)) ∧ V.cell? ⟨be, oe + 3, none⟩ = some (.slice se.a x.dels.length se.c) ∧ V.cell? ⟨be, oe + 4, none⟩ = some (.slice se.a' x.adds.length se.c')) := fun V hV => by
          have h5 := HE.out.2.2 V (H2.out.1.below.trans (hV.mono H2.out.1.below.size))
          exact ⟨(H2.out.2.1.kept (hV.block _ H2.out.2.1.lt)).fourV, h5.c0, h5.c1, h5.c2, h5.c3, h5.c4⟩
        go_upto_region 11 with fail
        go_cut [9, 10] (fun s9 s10 wz => ∃ (p : Nat) (t : SV), s9 = at_ p ∧ s10 = .int .i64 ((r : Nat) : Int) ∧ Hid (Ow W2 p y t wz))
        case first =>
          have HD : Hid (Below W2.heap.size W2 W2.drew) := (Below.refl _ _).drew
          have HD2 : Hid (Below W2.heap.size W2 (W2.alloc (.cells #[.slice none 0 0, .slice none 0 0, .slice none 0 0, .slice none 0 0] TVn)).drew) := ((Below.refl _ _).alloc (Nat.le_refl _) _).drew
          obtain ⟨⟨z0, z1, z2, z3⟩, z4, z5, z6, z7, z8⟩ := HC.out _ HD.out
          obtain ⟨⟨y0, y1, y2, y3⟩, y4, y5, y6, y7, y8⟩ := HC.out _ HD2.out
          go_region_held3 (fun V => (V.cell? ⟨p8, 0, none⟩ = some (.slice (t8.a 0) (u 0).length (t8.c 0)) ∧ V.cell? ⟨p8, 1, none⟩ = some (.slice (t8.a 1) (u 1).length (t8.c 1)) ∧ V.cell? ⟨p8, 2, none⟩ = some (.slice (t8.a 2) (u 2).length (t8.c 2)) ∧ V.cell? ⟨p8, 3, none⟩ = some (.slice (t8.a 3) (u 3).length (t8.c 3))) ∧ V.cell? ⟨be, oe, none⟩ = some (.int .u64 (x.log : Int)) ∧ V.cell? ⟨be, oe + 1, none⟩ = some (.int .u64 (x.next : Int)) ∧ V.cell? ⟨be, oe + 2, none⟩ = some (.int .u64 (x.last : Int)) ∧ V.cell? ⟨be, oe + 3, none⟩ = some (.slice se.a x.dels.length se.c) ∧ V.cell? ⟨be, oe + 4, none⟩ = some (.slice se.a' x.adds.length se.c')) (first | with_reducible exact ⟨⟨z0, z1, z2, z3⟩, z4, z5, z6, z7, z8⟩ | with_reducible exact ⟨⟨y0, y1, y2, y3⟩, y4, y5, y6, y7, y8⟩ | go_keep)
            (first
              | (go_at_call 11; (with_reducible refine (HAP.out _ HD.out).mono ?_); rintro _ vx ⟨t, rfl, HO, hvx⟩; have HY : Hid (Below W2.heap.size W2 vx) := HD.out.trans hvx; have hge : W2.heap.size ≤ vx.heap.size := HY.out.size; have hn1 : p8 ≠ vx.heap.size := (by omega); have hn2 : be ≠ vx.heap.size := (by omega); clear hvx z0 z1 z2 z3 z4 z5 z6 z7 z8; obtain ⟨⟨z0, z1, z2, z3⟩, z4, z5, z6, z7, z8⟩ := HC.out _ HY.out)
              | (go_at_call 11; (with_reducible refine (HAP.out _ HD2.out).mono ?_); rintro _ vx ⟨t, rfl, HO, hvx⟩; have HY : Hid (Below W2.heap.size W2 vx) := HD2.out.trans (hvx.mono (by simp)); have KB : Hid (Box vx W2.heap.size TVn #[.slice none 0 0, .slice none 0 0, .slice none 0 0, .slice none 0 0]) := (by have h9 : Box (W2.alloc (.cells #[.slice none 0 0, .slice none 0 0, .slice none 0 0, .slice none 0 0] TVn)).drew W2.heap.size TVn #[.slice none 0 0, .slice none 0 0, .slice none 0 0, .slice none 0 0] := Box.new W2 TVn #[.slice none 0 0, .slice none 0 0, .slice none 0 0, .slice none 0 0]; exact h9.kept (hvx.block _ h9.lt)); have k0 := KB.out.cell 0; have k1 := KB.out.cell 1; have k2 := KB.out.cell 2; have k3 := KB.out.cell 3; have ks := KB.out.soft; clear hvx z0 z1 z2 z3 z4 z5 z6 z7 z8; obtain ⟨⟨z0, z1, z2, z3⟩, z4, z5, z6, z7, z8⟩ := HC.out _ HY.out))
          all_goals go_wp2_with fail
          all_goals go_meet
          all_goals first
            | exact ⟨_, t, rfl, rfl, Ow.new HY.out HO.out (Nat.le_refl _)⟩
            | exact ⟨_, t, rfl, rfl, Ow.set HY.out HO.out (by simp) (Nat.le_refl _) KB.out⟩
        case rest =>
          obtain ⟨p9, t9, rfl, rfl, HOp9⟩ := hcut
          clear HAP HC hbw hpw hne1 hne2 hne3 hne4
          have H3 : Hid (Pl w p6 u sv sr wc ∧ Box wc p8 TVn (vA u t8) ∧ VnAt wc u t8 ∧ Box wc p9 TVn (vA y t9) ∧ OwnV wc (p6 + 1) y t9) := ⟨H2.out.1.later HOp9.out.below, H2.out.2.1.kept (HOp9.out.below.block _ H2.out.2.1.lt), H2.out.2.2.below HOp9.out.below, HOp9.out.box, fun n hn => (HOp9.out.own n hn).less H2.out.1.br.lt⟩
          clear H2 HOp9
          generalize hwd : wc = wd at H3 ⊢
          clear hwd
          have hbw : be < wd.heap.size := Nat.lt_of_lt_of_le hblt H3.out.1.below.size
          have hpw : p6 < wd.heap.size := H3.out.1.br.lt
          have hne1 : p6 ≠ wd.heap.size := by omega
          have hne2 : be ≠ wd.heap.size := by omega
          have hne3 : wd.heap.size ≠ p6 := by omega
          have hne4 : wd.heap.size ≠ be := by omega
          have HAP : Hid (∀ V : World, Below wd.heap.size wd V → Calls Try.prog 12 #[.agg #[.slice (sr.a 0) (u 0).length (sr.c 0), .slice (sr.a 1) (u 1).length (sr.c 1), .slice (sr.a 2) (u 2).length (sr.c 2), .slice (sr.a 3) (u 3).length (sr.c 3)], .agg #[.int .u64 (x.log : Int), .int .u64 (x.next : Int), .int .u64 (x.last : Int), .slice se.a x.dels.length se.c, .slice se.a' x.adds.length se.c']] V fun e w' => ∃ t : SV, e = .returned (.tuple #[.agg #[.slice (t.a 0) (y 0).length (t.c 0), .slice (t.a 1) (y 1).length (t.c 1), .slice (t.a 2) (y 2).length (t.c 2), .slice (t.a 3) (y 3).length (t.c 3)], .int .i64 ((r : Nat) : Int)]) ∧ Hid (OwnV w' V.heap.size y t) ∧ Below V.heap.size V w') := fun V hV => by
            have h0 := rapply_any u sr x se V (H3.out.1.ar.below hV) (HE.out.1.below (H3.out.1.below.trans (hV.mono H3.out.1.below.size))) HU.out.1 HE.out.2.1 (by have := HU.out.2; omega)
            rw [HR.out] at h0
            exact h0
          have HC : Hid (∀ V : World, Below wd.heap.size wd V → (V.cell? ⟨p6, 0, none⟩ = some (.slice (sr.a 0) (u 0).length (sr.c 0)) ∧ V.cell? ⟨p6, 1, none⟩ = some (.slice (sr.a 1) (u 1).length (sr.c 1)) ∧ V.cell? ⟨p6, 2, none⟩ = some (.slice (sr.a 2) (u 2).length (sr.c 2)) ∧ V.cell? ⟨p6, 3, none⟩ = some (.slice (sr.a 3) (u 3).length (sr.c 3))) ∧ V.cell? ⟨be, oe, none⟩ = some (.int .u64 (x.log : Int)) ∧ V.cell? ⟨be, oe + 1, none⟩ = some (.int .u64 (x.next : Int)) ∧ V.cell? ⟨be, oe + 2, none⟩ = some (.int .u64 (x.last : Int)) ∧ V.cell? ⟨be, oe + 3, none⟩ = some (.slice se.a x.dels.length se.c) ∧ V.cell? ⟨be, oe + 4, none⟩ = some (.slice se.a' x.adds.length se.c')) := fun V hV => by
            have h5 := HE.out.2.2 V (H3.out.1.below.trans (hV.mono H3.out.1.below.size))
            exact ⟨(H3.out.1.br.kept (hV.block _ H3.out.1.br.lt)).fourV, h5.c0, h5.c1, h5.c2, h5.c3, h5.c4⟩
          go_upto_region 12 with fail
          go_cut [11, 12] (fun s11 s12 wz => ∃ (p : Nat) (t : SV), s11 = at_ p ∧ s12 = .int .i64 ((r : Nat) : Int) ∧ Hid (Ow wd p y t wz))
          case first =>
            have HD : Hid (Below wd.heap.size wd wd.drew) := (Below.refl _ _).drew
            have HD2 : Hid (Below wd.heap.size wd (wd.alloc (.cells #[.slice none 0 0, .slice none 0 0, .slice none 0 0, .slice none 0 0] TVn)).drew) := ((Below.refl _ _).alloc (Nat.le_refl _) _).drew
            obtain ⟨⟨z0, z1, z2, z3⟩, z4, z5, z6, z7, z8⟩ := HC.out _ HD.out
            obtain ⟨⟨y0, y1, y2, y3⟩, y4, y5, y6, y7, y8⟩ := HC.out _ HD2.out
            go_region_held3 (fun V => (V.cell? ⟨p6, 0, none⟩ = some (.slice (sr.a 0) (u 0).length (sr.c 0)) ∧ V.cell? ⟨p6, 1, none⟩ = some (.slice (sr.a 1) (u 1).length (sr.c 1)) ∧ V.cell? ⟨p6, 2, none⟩ = some (.slice (sr.a 2) (u 2).length (sr.c 2)) ∧ V.cell? ⟨p6, 3, none⟩ = some (.slice (sr.a 3) (u 3).length (sr.c 3))) ∧ V.cell? ⟨be, oe, none⟩ = some (.int .u64 (x.log : Int)) ∧ V.cell? ⟨be, oe + 1, none⟩ = some (.int .u64 (x.next : Int)) ∧ V.cell? ⟨be, oe + 2, none⟩ = some (.int .u64 (x.last : Int)) ∧ V.cell? ⟨be, oe + 3, none⟩ = some (.slice se.a x.dels.length se.c) ∧ V.cell? ⟨be, oe + 4, none⟩ = some (.slice se.a' x.adds.length se.c')) (first | with_reducible exact ⟨⟨z0, z1, z2, z3⟩, z4, z5, z6, z7, z8⟩ | with_reducible exact ⟨⟨y0, y1, y2, y3⟩, y4, y5, y6, y7, y8⟩ | go_keep)
              (first
                | (go_at_call 12; (with_reducible refine (HAP.out _ HD.out).mono ?_); rintro _ vx ⟨t, rfl, HO, hvx⟩; have HY : Hid (Below wd.heap.size wd vx) := HD.out.trans hvx; have hge : wd.heap.size ≤ vx.heap.size := HY.out.size; have hn1 : p6 ≠ vx.heap.size := (by omega); have hn2 : be ≠ vx.heap.size := (by omega); clear hvx z0 z1 z2 z3 z4 z5 z6 z7 z8; obtain ⟨⟨z0, z1, z2, z3⟩, z4, z5, z6, z7, z8⟩ := HC.out _ HY.out)
                | (go_at_call 12; (with_reducible refine (HAP.out _ HD2.out).mono ?_); rintro _ vx ⟨t, rfl, HO, hvx⟩; have HY : Hid (Below wd.heap.size wd vx) := HD2.out.trans (hvx.mono (by simp)); have KB : Hid (Box vx wd.heap.size TVn #[.slice none 0 0, .slice none 0 0, .slice none 0 0, .slice none 0 0]) := (by have h9 : Box (wd.alloc (.cells #[.slice none 0 0, .slice none 0 0, .slice none 0 0, .slice none 0 0] TVn)).drew wd.heap.size TVn #[.slice none 0 0, .slice none 0 0, .slice none 0 0, .slice none 0 0] := Box.new wd TVn #[.slice none 0 0, .slice none 0 0, .slice none 0 0, .slice none 0 0]; exact h9.kept (hvx.block _ h9.lt)); have k0 := KB.out.cell 0; have k1 := KB.out.cell 1; have k2 := KB.out.cell 2; have k3 := KB.out.cell 3; have ks := KB.out.soft; clear hvx z0 z1 z2 z3 z4 z5 z6 z7 z8; obtain ⟨⟨z0, z1, z2, z3⟩, z4, z5, z6, z7, z8⟩ := HC.out _ HY.out))
            all_goals go_wp2_with fail
            all_goals go_meet
            all_goals first
              | exact ⟨_, t, rfl, rfl, Ow.new HY.out HO.out (Nat.le_refl _)⟩
              | exact ⟨_, t, rfl, rfl, Ow.set HY.out HO.out (by simp) (Nat.le_refl _) KB.out⟩
          case rest =>
            obtain ⟨p11, t11, rfl, rfl, HOp11⟩ := hcut
            clear HAP HC hbw hpw hne1 hne2 hne3 hne4
            have H4 : Hid (Pl w p6 u sv sr wc ∧ Box wc p8 TVn (vA u t8) ∧ VnAt wc u t8 ∧ Box wc p9 TVn (vA y t9) ∧ OwnV wc (p6 + 1) y t9 ∧ Box wc p11 TVn (vA y t11) ∧ OwnV wc (p6 + 1) y t11) := by
              have hb := HOp11.out.below
              exact ⟨H3.out.1.later hb, H3.out.2.1.kept (hb.block _ H3.out.2.1.lt), H3.out.2.2.1.below hb, H3.out.2.2.2.1.kept (hb.block _ H3.out.2.2.2.1.lt), H3.out.2.2.2.2.below hb, HOp11.out.box, fun n hn => (HOp11.out.own n hn).less H3.out.1.br.lt⟩
            have hp9 : p6 < p11 := Nat.lt_of_lt_of_le H3.out.1.br.lt HOp11.out.ge
            clear H3 HOp11
            obtain ⟨c0, c1, c2, c3⟩ := H4.out.2.2.2.1.fourV
            obtain ⟨e0, e1, e2, e3⟩ := H4.out.2.2.2.2.2.1.fourV
            go_wp2_with fail
            refine (vsame_eq H4.out.2.2.2.2.1.at H4.out.2.2.2.2.2.2.at (fun n hn => rfl)).mono ?_
            rintro _ w6 ⟨rfl, hb6⟩
            have H6 : Hid (Pl w p6 u sv sr w6 ∧ Box w6 p8 TVn (vA u t8) ∧ VnAt w6 u t8 ∧ Box w6 p9 TVn (vA y t9) ∧ OwnV w6 (p6 + 1) y t9 ∧ Box w6 p11 TVn (vA y t11) ∧ OwnV w6 (p6 + 1) y t11) := ⟨H4.out.1.later hb6, H4.out.2.1.kept (hb6.block _ H4.out.2.1.lt), H4.out.2.2.1.below hb6, H4.out.2.2.2.1.kept (hb6.block _ H4.out.2.2.2.1.lt), H4.out.2.2.2.2.1.below hb6, H4.out.2.2.2.2.2.1.kept (hb6.block _ H4.out.2.2.2.2.2.1.lt), H4.out.2.2.2.2.2.2.below hb6⟩
            clear H4 hb6 c0 c1 c2 c3 e0 e1 e2 e3
            obtain ⟨c0, c1, c2, c3⟩ := H6.out.2.1.fourV
            obtain ⟨e0, e1, e2, e3⟩ := H6.out.1.bv.fourV
            go_wp2_with fail
            refine (vsame_eq H6.out.2.2.1 H6.out.1.av (fun n hn => rfl)).mono ?_
            rintro _ w7 ⟨rfl, hb7⟩
            have H7 : Hid (Pl w p6 u sv sr w7 ∧ Box w7 p9 TVn (vA y t9) ∧ OwnV w7 (p6 + 1) y t9 ∧ Box w7 p11 TVn (vA y t11) ∧ OwnV w7 (p6 + 1) y t11) := ⟨H6.out.1.later hb7, H6.out.2.2.2.1.kept (hb7.block _ H6.out.2.2.2.1.lt), H6.out.2.2.2.2.1.below hb7, H6.out.2.2.2.2.2.1.kept (hb7.block _ H6.out.2.2.2.2.2.1.lt), H6.out.2.2.2.2.2.2.below hb7⟩
            clear H6 hb7 c0 c1 c2 c3 e0 e1 e2 e3
            have c0 := fun p : Bel w7 => (H7.out.1.later p.h).bv.fourV.1
            have c1 := fun p : Bel w7 => (H7.out.1.later p.h).bv.fourV.2.1
            have c2 := fun p : Bel w7 => (H7.out.1.later p.h).bv.fourV.2.2.1
            have c3 := fun p : Bel w7 => (H7.out.1.later p.h).bv.fourV.2.2.2
            have e0 := fun p : Bel w7 => (H7.out.1.later p.h).br.fourV.1
            have e1 := fun p : Bel w7 => (H7.out.1.later p.h).br.fourV.2.1
            have e2 := fun p : Bel w7 => (H7.out.1.later p.h).br.fourV.2.2.1
            have e3 := fun p : Bel w7 => (H7.out.1.later p.h).br.fourV.2.2.2
            have hne : Nonempty (Bel w7) := ⟨⟨w7, Below.refl _ _⟩⟩
            obtain ⟨ck, HK⟩ : ∃ ck : Nat, Hid (ck = chkV u) := ⟨_, rfl⟩
            have HC1 : Hid (∀ p : Bel w7, Calls Try.prog 14 #[.agg #[.slice (sv.a 0) (u 0).length (sv.c 0), .slice (sv.a 1) (u 1).length (sv.c 1), .slice (sv.a 2) (u 2).length (sv.c 2), .slice (sv.a 3) (u 3).length (sv.c 3)]] p.now fun e w' => e = .returned (.int .i64 ((ck : Nat) : Int)) ∧ Below p.now.heap.size p.now w') := fun p => by rw [HK.out]; exact vcheck_any u sv p.now (H7.out.1.later p.h).av HU.out.1 (by have := HU.out.2; omega)
            have HC2 : Hid (∀ p : Bel w7, Calls Try.prog 15 #[.agg #[.slice (sr.a 0) (u 0).length (sr.c 0), .slice (sr.a 1) (u 1).length (sr.c 1), .slice (sr.a 2) (u 2).length (sr.c 2), .slice (sr.a 3) (u 3).length (sr.c 3)]] p.now fun e w' => e = .returned (.int .i64 ((ck : Nat) : Int)) ∧ Below p.now.heap.size p.now w') := fun p => by rw [HK.out]; exact rvcheck_any u sr p.now (H7.out.1.later p.h).ar HU.out.1 (by have := HU.out.2; omega)
            go_upto_region 15 with fail
            refine wp_region_bel (by kernel_rfl) (by kernel_rfl) ?_
            repeat (quiet_step (first | (refine bel_call (HC1.out _)) | (refine bel_call (HC2.out _))))
            refine wpQuiet_nil ?_
            rintro _ ⟨p, rfl⟩
            have H8 : Hid (Pl w p6 u sv sr p.now ∧ Box p.now p9 TVn (vA y t9) ∧ OwnV p.now (p6 + 1) y t9 ∧ Box p.now p11 TVn (vA y t11) ∧ OwnV p.now (p6 + 1) y t11) := ⟨H7.out.1.later p.h, H7.out.2.1.kept (p.h.block _ H7.out.2.1.lt), H7.out.2.2.1.below p.h, H7.out.2.2.2.1.kept (p.h.block _ H7.out.2.2.2.1.lt), H7.out.2.2.2.2.below p.h⟩
            clear c0 c1 c2 c3 e0 e1 e2 e3 HC1 HC2 HK
            generalize p.now = w8 at H8 ⊢
            clear H7
            by_cases hr0 : r = 0
            · subst hr0
              have HY2 : Hid (WfV y ∧ y.all.length ≤ 1000 + 100 * (i + 1)) := ⟨apply_wf HR.out HU.out.1 HE.out.2.1, by have h1 := apply_len HR.out; have h2 := HI.out.2.2; omega⟩
              obtain ⟨c0, c1, c2, c3⟩ := H8.out.2.1.fourV
              obtain ⟨e0, e1, e2, e3⟩ := H8.out.1.bv.fourV
              have es : ∀ j, w8.frozen? ⟨w.heap.size, j, none⟩ = false := fun j => H8.out.1.bv.soft j
              obtain ⟨W9, e9, H9⟩ : ∃ W9, W9 = ((((w8.setCell ⟨w.heap.size, 0, none⟩ (.slice (t9.a 0) (y 0).length (t9.c 0))).setCell ⟨w.heap.size, 1, none⟩ (.slice (t9.a 1) (y 1).length (t9.c 1))).setCell ⟨w.heap.size, 2, none⟩ (.slice (t9.a 2) (y 2).length (t9.c 2))).setCell ⟨w.heap.size, 3, none⟩ (.slice (t9.a 3) (y 3).length (t9.c 3))) ∧ Hid (F4 w8 w.heap.size y t9 W9) := ⟨_, rfl, F4.of H8.out.1.bv y t9⟩
              have hwp : w.heap.size < p6 := H8.out.1.ge
              go_upto_region 19 with fail
              rw [← e9]
              clear c0 c1 c2 c3 e0 e1 e2 e3 es e9
              have HB9 : Hid (Box W9 p11 TVn (vA y t11) ∧ Box W9 p6 TVn (vA u sr)) := ⟨H8.out.2.2.2.1.kept (H9.out.chg.block _ H8.out.2.2.2.1.lt (by omega)), H8.out.1.br.kept (H9.out.chg.block _ H8.out.1.br.lt (by omega))⟩
              obtain ⟨c0, c1, c2, c3⟩ := HB9.out.1.fourV
              obtain ⟨e0, e1, e2, e3⟩ := HB9.out.2.fourV
              have es : ∀ j, W9.frozen? ⟨p6, j, none⟩ = false := fun j => HB9.out.2.soft j
              have HZ : Hid (Pl w p6 y t9 t11 _) := H8.out.1.move H9.out (F4.of HB9.out.2 y t11) (Nat.lt_succ_self _) H8.out.2.2.1 H8.out.2.2.2.2
              go_wp2
              go_roundw
              case rel => exact ⟨i + 1, y, t9, t11, hi, by go_num, HZ.out, HY2.out⟩
              case measure => simp only [intOf]; omega
            · have hrb : (((r : Nat) : Int) == 0) = false := beq_eq_false_iff_ne.2 (by omega)
              have hrI : ((r : Nat) : Int) ≠ 0 := by omega
              have HIN : Hid (WfV u ∧ u.all.length ≤ 1000 + 100 * (i + 1)) := ⟨HU.out.1, by have := HI.out.2.2; omega⟩
              go_wp2
              go_roundw
              case rel => exact ⟨i + 1, u, sv, sr, hi, by go_num, H8.out.1, HIN.out⟩
              case measure => simp only [intOf]; omega
      · have hiI : ¬ (i : Int) < (m : Int) := by omega
        have c0 := fun p : Bel wr => (HI.out.1.later p.h).bv.fourV.1
        have c1 := fun p : Bel wr => (HI.out.1.later p.h).bv.fourV.2.1
        have c2 := fun p : Bel wr => (HI.out.1.later p.h).bv.fourV.2.2.1
        have c3 := fun p : Bel wr => (HI.out.1.later p.h).bv.fourV.2.2.2
        have e0 := fun p : Bel wr => (HI.out.1.later p.h).br.fourV.1
        have e1 := fun p : Bel wr => (HI.out.1.later p.h).br.fourV.2.1
        have e2 := fun p : Bel wr => (HI.out.1.later p.h).br.fourV.2.2.1
        have e3 := fun p : Bel wr => (HI.out.1.later p.h).br.fourV.2.2.2
        have hne : Nonempty (Bel wr) := ⟨⟨wr, Below.refl _ _⟩⟩
        obtain ⟨ck, HK⟩ : ∃ ck : Nat, Hid (ck = chkV u) := ⟨_, rfl⟩
        have HC1 : Hid (∀ p : Bel wr, Calls Try.prog 14 #[.agg #[.slice (sv.a 0) (u 0).length (sv.c 0), .slice (sv.a 1) (u 1).length (sv.c 1), .slice (sv.a 2) (u 2).length (sv.c 2), .slice (sv.a 3) (u 3).length (sv.c 3)]] p.now fun e w' => e = .returned (.int .i64 ((ck : Nat) : Int)) ∧ Below p.now.heap.size p.now w') := fun p => by rw [HK.out]; exact vcheck_any u sv p.now (HI.out.1.later p.h).av HU.out.1 (by have := HU.out.2; omega)
        have HC2 : Hid (∀ p : Bel wr, Calls Try.prog 15 #[.agg #[.slice (sr.a 0) (u 0).length (sr.c 0), .slice (sr.a 1) (u 1).length (sr.c 1), .slice (sr.a 2) (u 2).length (sr.c 2), .slice (sr.a 3) (u 3).length (sr.c 3)]] p.now fun e w' => e = .returned (.int .i64 ((ck : Nat) : Int)) ∧ Below p.now.heap.size p.now w') := fun p => by rw [HK.out]; exact rvcheck_any u sr p.now (HI.out.1.later p.h).ar HU.out.1 (by have := HU.out.2; omega)
        go_wp2_with fail
        refine wp_region_bel (by kernel_rfl) (by kernel_rfl) ?_
        repeat (quiet_step (first | (refine bel_call (HC1.out _)) | (refine bel_call (HC2.out _))))
        refine wpQuiet_nil ?_
        rintro _ ⟨p, rfl⟩
        have H8 : Hid (Below w.heap.size w p.now) := (HI.out.1.later p.h).below
        clear c0 c1 c2 c3 e0 e1 e2 e3 HC1 HC2 HK
        generalize p.now = w8 at H8 ⊢
        go_wp2
        go_ret
        exact ⟨ret1 rfl, H8.out⟩
end Go.Proofs.Ytcdfgcjecmpjhaa
