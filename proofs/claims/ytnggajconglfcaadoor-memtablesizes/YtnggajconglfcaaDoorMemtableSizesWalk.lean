/- The walk of MemtableSizes. -/
import Derived.Test.YtnggajconglfcaaDoorM8PutF
import Derived.Test.YtnggajconglfcaaDoorM8SzPlain
import Derived.Test.YtnggajconglfcaaDoorM8Eq
import Derived.Deep.DeepCutAuto
import Derived.Deep.RegionHeld3
import Derived.BigQuiet
namespace Go.Proofs.YtnggajconglfcaaDoor
open Go.RowKit
set_option linter.unusedVariables false
set_option linter.unusedSimpArgs false
set_option maxRecDepth 100000 in
set_option maxHeartbeats 4000000 in
theorem memtableSizes_walk (a : Option Addr) (n cap : Nat) (l : List KV) (w : World) (h0 : KsAt w a n cap l) (hr0 : ∀ e ∈ l, RawOk e) (hlen : n ≤ 2932031007403) (hg : Glob w) : Calls Tryd.prog 8 #[.slice a n cap] w fun e w' => e = .returned (.bool true) ∧ Below w.heap.size w w' := by
  have HM0 : Hid (KsAt w a n cap l ∧ (∀ e ∈ l, RawOk e) ∧ l.length = n) := ⟨h0, hr0, h0.size⟩
  have HG : Hid (Glob w) := hg
  have hcm := h0.max
  have hle := h0.le
  unfold maxLen at hcm
  clear h0 hr0 hg
  go_enter Tryd.func8, Tryd.ntmps8
  go_wp2_with fail
  refine (awake_any _ HG.out).mono ?_
  rintro _ w1 ⟨rfl, hb1⟩
  have HB1 : Hid (Below w.heap.size w w1) := hb1
  clear hb1
  go_wp2_with fail
  refine (memNew_at _).mono ?_
  rintro _ w2 ⟨p, G0, rfl, h1, h2, h3⟩
  have HO : Hid (Own8 w w2 p PT.new G0) := Own8.made h1 h2 h3 HB1.out
  clear h1 h2 h3
  go_wp2_with fail
  go_loopw [5, 6, 7] (fun x y z wr => ∃ (i sz ct : Nat), i ≤ n ∧ ct ≤ i ∧ sz ≤ ct * 1080 ∧ x = .int .i64 (sz : Int) ∧ y = .int .i64 (ct : Int) ∧ z = .int .i64 (i : Int) ∧ Hid (∃ (T : PT) (G : TG), Own8 w wr p T G ∧ T.size = sz ∧ T.kvs.length = ct)) (fun _ _ z _ => n - (intOf z).toNat)
  case atStart => exact ⟨0, 0, 0, Nat.zero_le _, Nat.le_refl _, Nat.zero_le _, rfl, rfl, rfl, PT.new, G0, HO.out, rfl, rfl⟩
  case round =>
    obtain ⟨i, sz, ct, hi, hct, hsz, rfl, rfl, rfl, HI⟩ := hrel
    obtain ⟨T, G1, hO, hTs, hTn⟩ := HI.out
    by_cases hin : i < n
    · have hil : i < l.length := by rw [HM0.out.2.2]; exact hin
      have hkb : KsAt wr a n cap l := HM0.out.1.below hO.base
      obtain ⟨b, off, hab, hc⟩ := hkb.cells4 (by omega)
      obtain ⟨c0, c1, c2, c3⟩ := hc i hil
      have hidx := fun W => idxKV W (a := a) (b := b) (off := off) (n := n) (c := cap) hab hin
      have hraw := HM0.out.2.1 _ (List.getElem_mem hil)
      have HCell : Hid (∀ W : World, Below w.heap.size w W → W.cell? ⟨b, off + i * 4, none⟩ = some (.string l[i].1.user) ∧ W.cell? ⟨b, off + i * 4 + 1, none⟩ = some (.int .u64 (l[i].1.seq : Int)) ∧ W.cell? ⟨b, off + i * 4 + 2, none⟩ = some (.int .i64 l[i].1.kind) ∧ W.cell? ⟨b, off + i * 4 + 3, none⟩ = some (.string l[i].2)) := fun W hW => by
        obtain ⟨b', off', hb', hc'⟩ := (HM0.out.1.below hW).cells4 (by omega)
        rw [hab] at hb'
        simp only [Option.some.injEq, Addr.mk.injEq] at hb'
        obtain ⟨rfl, rfl, _⟩ := hb'
        exact hc' i hil
      have HRaw : Hid (RawOk l[i]) := hraw
      generalize l[i] = e at c0 c1 c2 c3 HCell HRaw
      have HO1 : Hid (Own8 w wr p T G1 ∧ T.size = sz ∧ T.kvs.length = ct) := ⟨hO, hTs, hTn⟩
      have HCs := T.add_cases e.1 e.2
      have HA : Hid (∀ W : World, Own8 w W p T G1 → Calls Tryd.prog 11 #[at_ p, .agg #[.string e.1.user, .int .u64 (e.1.seq : Int), .int .i64 e.1.kind], .string e.2] W fun er w' => er = .returned (.int .i64 ((T.err e.1 e.2 : Nat) : Int)) ∧ ∃ G, Own8 w w' p (T.add e.1 e.2) G) := fun W hW => by
        refine (add_own put_any (by decide) HG.out hW e.1 e.2 (by have := HRaw.out.key.user; unfold maxLen at this; omega) HRaw.out.val (by have := HO1.out.2.2; omega)).mono ?_
        rintro _ w' ⟨rfl, G', ho, _⟩
        exact ⟨rfl, G', ho⟩
      have HO2 : Hid (Own8 w wr.drew p T G1) := HO1.out.1.below (Below.refl _ _).drew
      have y0 : wr.drew.cell? ⟨b, off + i * 4, none⟩ = some (.string e.1.user) := c0
      have y1 : wr.drew.cell? ⟨b, off + i * 4 + 1, none⟩ = some (.int .u64 (e.1.seq : Int)) := c1
      have y2 : wr.drew.cell? ⟨b, off + i * 4 + 2, none⟩ = some (.int .i64 e.1.kind) := c2
      have y3 : wr.drew.cell? ⟨b, off + i * 4 + 3, none⟩ = some (.string e.2) := c3
      rw [hTs, hTn] at HCs
      clear hc hab hkb hraw hO hTs hTn HI c0 c1 c2 c3
      rcases HCs with ⟨he, hs2, hn2, hu, hv⟩ | ⟨he, hs2⟩
      · rw [he] at HA
        have HT : Hid ((T.add e.1 e.2).size = sz + e.1.user.size + e.2.size + 16 ∧ (T.add e.1 e.2).kvs.length = ct + 1) := ⟨hs2, hn2⟩
        generalize T.add e.1 e.2 = T2 at HA HT
        clear he hs2 hn2
        go_wp2_with fail
        go_region_held3 (fun W => W.cell? ⟨b, off + i * 4, none⟩ = some (.string e.1.user) ∧ W.cell? ⟨b, off + i * 4 + 1, none⟩ = some (.int .u64 (e.1.seq : Int)) ∧ W.cell? ⟨b, off + i * 4 + 2, none⟩ = some (.int .i64 e.1.kind) ∧ W.cell? ⟨b, off + i * 4 + 3, none⟩ = some (.string e.2)) (first | exact ⟨y0, y1, y2, y3⟩ | go_keep)
          (first
           | (go_at_call 11; refine (HA.out _ HO2.out).mono ?_; rintro _ vx ⟨rfl, G3, hx⟩
              have HO3 : Hid (Own8 w vx p T2 G3) := hx
              obtain ⟨y0, y1, y2, y3⟩ := HCell.out _ hx.base
              clear hx))
        have w1' : IntKind.i64.wrap ((sz : Int) + (e.1.user.size : Int)) = (sz : Int) + (e.1.user.size : Int) := by rw [IntKind.wrap_i64]; omega
        have w2' : IntKind.i64.wrap ((sz : Int) + (e.1.user.size : Int) + (e.2.size : Int)) = (sz : Int) + (e.1.user.size : Int) + (e.2.size : Int) := by rw [IntKind.wrap_i64]; omega
        have w3' : IntKind.i64.wrap ((sz : Int) + (e.1.user.size : Int) + (e.2.size : Int) + 16) = (sz : Int) + (e.1.user.size : Int) + (e.2.size : Int) + 16 := by rw [IntKind.wrap_i64]; omega
        go_wp2_with fail
        go_quiet (fail)
        have HO4 : Hid (Own8 w (vx.drewN nq) p T2 G3) := HO3.out.below (Below.drewM (Below.refl _ _) _)
        generalize vx.drewN nq = vy at HO4 ⊢
        have HSz := size_at HO4.out.at'
        rw [HT.out.1] at HSz
        rw [show (((sz + e.1.user.size + e.2.size + 16 : Nat)) : Int) = (sz : Int) + (e.1.user.size : Int) + (e.2.size : Int) + 16 by omega] at HSz
        clear y0 y1 y2 y3
        go_wp2_with fail
        refine HSz.mono ?_
        rintro _ vz ⟨rfl, hvz⟩
        subst hvz
        clear HSz
        go_wp2
        go_roundw
        case rel => exact ⟨i + 1, sz + e.1.user.size + e.2.size + 16, ct + 1, hin, by omega, by omega, by go_num, by go_num, by go_num, T2, G3, HO4.out, HT.out.1, HT.out.2⟩
        case measure => simp only [intOf]; omega
      · have hne : (((T.err e.1 e.2 : Nat) : Int) == 0) = false := beq_eq_false_iff_ne.2 (by omega)
        rw [hs2] at HA
        generalize T.err e.1 e.2 = E at HA hne
        clear he hs2
        go_wp2_with fail
        go_region_held3 (fun W => W.cell? ⟨b, off + i * 4, none⟩ = some (.string e.1.user) ∧ W.cell? ⟨b, off + i * 4 + 1, none⟩ = some (.int .u64 (e.1.seq : Int)) ∧ W.cell? ⟨b, off + i * 4 + 2, none⟩ = some (.int .i64 e.1.kind) ∧ W.cell? ⟨b, off + i * 4 + 3, none⟩ = some (.string e.2)) (first | exact ⟨y0, y1, y2, y3⟩ | go_keep)
          (first
           | (go_at_call 11; refine (HA.out _ HO2.out).mono ?_; rintro _ vx ⟨rfl, G3, hx⟩
              have HO3 : Hid (Own8 w vx p T G3) := hx
              obtain ⟨y0, y1, y2, y3⟩ := HCell.out _ hx.base
              clear hx))
        have HSz := size_at HO3.out.at'
        rw [HO1.out.2.1] at HSz
        clear y0 y1 y2 y3
        go_wp2_with fail
        refine HSz.mono ?_
        rintro _ vz ⟨rfl, hvz⟩
        subst hvz
        clear HSz
        go_wp2
        go_roundw
        case rel => exact ⟨i + 1, sz, ct, hin, by omega, hsz, by go_num, by go_num, by go_num, T, G3, HO3.out, HO1.out.2.1, HO1.out.2.2⟩
        case measure => simp only [intOf]; omega
    · have HAl := all_at hO.at' (by omega) (hO.glob HG.out)
      have HO1 : Hid (Own8 w wr p T G1) := hO
      rw [hTn] at HAl
      have HTn : Hid (T.kvs.length = ct) := hTn
      have hct2 : ct ≤ 2932031007403 := by omega
      clear hO hTs hTn HI
      go_wp2_with fail
      refine HAl.mono ?_
      rintro _ V ⟨la, rfl, hOk, hb⟩
      have hks := hOk.ks (by unfold maxLen; omega)
      obtain ⟨-, gb, arr0, hla, -⟩ := hOk
      have HV : Hid (KsAt V la ct ct T.kvs ∧ Own8 w V p T G1 ∧ T.Inv) := ⟨hks, HO1.out.below hb, HO1.out.at'.inv⟩
      subst hla
      clear hks hb HAl hi hct hsz hin
      go_wp2_with fail
      go_loopw [10] (fun x wx => ∃ k : Nat, k ≤ ct ∧ x = .int .i64 (k : Int) ∧ Hid (Below V.heap.size V wx)) (fun x _ => ct - (intOf x).toNat)
      case atStart => exact ⟨0, Nat.zero_le _, rfl, Below.refl _ _⟩
      case round =>
        obtain ⟨k, hk, rfl, HI⟩ := hrel
        by_cases hkn : k < ct
        · have hkl : k < T.kvs.length := by rw [HTn.out]; exact hkn
          have hks : KsAt wr (some ⟨gb, 0, none⟩) ct ct T.kvs := HV.out.1.below HI.out
          obtain ⟨b, off, hab, hc⟩ := hks.cells4 (by omega)
          simp only [Option.some.injEq, Addr.mk.injEq] at hab
          obtain ⟨rfl, rfl, -⟩ := hab
          obtain ⟨c0, c1, c2, c3⟩ := hc k hkl
          have hidx := fun W => idxKV W (a := some ⟨gb, 0, none⟩) (b := gb) (off := 0) (n := ct) (c := ct) rfl hkn
          have HCell : Hid (∀ (W : World) (j : Nat) (hj : j < T.kvs.length), Below V.heap.size V W → W.cell? ⟨gb, 0 + j * 4, none⟩ = some (.string T.kvs[j].1.user) ∧ W.cell? ⟨gb, 0 + j * 4 + 1, none⟩ = some (.int .u64 (T.kvs[j].1.seq : Int)) ∧ W.cell? ⟨gb, 0 + j * 4 + 2, none⟩ = some (.int .i64 T.kvs[j].1.kind) ∧ W.cell? ⟨gb, 0 + j * 4 + 3, none⟩ = some (.string T.kvs[j].2)) := fun W j hj hW => by
            obtain ⟨b', off', hb', hc'⟩ := (HV.out.1.below hW).cells4 (by omega)
            simp only [Option.some.injEq, Addr.mk.injEq] at hb'
            obtain ⟨rfl, rfl, _⟩ := hb'
            exact hc' j hj
          have HGt : Hid (∀ W : World, Below V.heap.size V W → Calls Tryd.prog 13 #[at_ p, .string T.kvs[k].1.user, .int .u64 (T.kvs[k].1.seq : Int)] W fun e w' => e = .returned (.tuple #[.string (told (lget T.kvs T.kvs[k].1.user T.kvs[k].1.seq)).1, .int .i64 (((told (lget T.kvs T.kvs[k].1.user T.kvs[k].1.seq)).2 : Nat) : Int)]) ∧ Below V.heap.size V w') := fun W hW => by
            have h64 := (IK.ok_of (HV.out.2.2.ok _ (List.getElem_mem hkl)).key).2
            refine (get_at (HV.out.2.1.at'.below hW) _ _ (by omega) (by rw [HTn.out]; omega) ((HV.out.2.1.glob HG.out).of_below0 hW)).mono ?_
            rintro _ w' ⟨rfl, hb'⟩
            exact ⟨rfl, hW.trans (hb'.mono hW.size)⟩
          have HOk : Hid (EOk T.kvs[k]) := HV.out.2.2.ok _ (List.getElem_mem hkl)
          have HI2 : Hid (Below V.heap.size V wr.drew) := HI.out.drew
          clear hc hks
          by_cases hk0 : k = 0
          · have HFd : Hid (lget T.kvs T.kvs[k].1.user T.kvs[k].1.seq = some T.kvs[k]) := HV.out.2.2.finds hkl (.inl hk0)
            rw [HFd.out] at HGt
            obtain ⟨hgx, hgm⟩ := told_own HOk.out
            rw [hgx] at HGt
            have HKl : Hid (k < T.kvs.length) := hkl
            have HCk : Hid (∀ W : World, Below V.heap.size V W → W.cell? ⟨gb, k * 4, none⟩ = some (.string T.kvs[k].1.user) ∧ W.cell? ⟨gb, k * 4 + 1, none⟩ = some (.int .u64 (T.kvs[k].1.seq : Int)) ∧ W.cell? ⟨gb, k * 4 + 2, none⟩ = some (.int .i64 T.kvs[k].1.kind) ∧ W.cell? ⟨gb, k * 4 + 3, none⟩ = some (.string T.kvs[k].2)) := fun W hW => by
              have := HCell.out W k hkl hW
              simp only [Nat.zero_add] at this
              exact this
            simp only [Nat.zero_add] at hidx c0 c1 c2 c3
            clear hgx HCell
            clear HFd
            generalize T.kvs[k] = e at c0 c1 c2 c3 HGt HOk hgm HCk
            clear hkl
            subst hk0
            simp only [Nat.zero_mul, Nat.zero_add] at hidx c0 c1 c2 c3 HCk
            go_wp2_with fail
            go_quiet (fail)
            have HIq : Hid (Below V.heap.size V (wr.drewN nq)) := Below.drewM HI.out _
            generalize wr.drewN nq = wq at HIq ⊢
            have HI3 : Hid (Below V.heap.size V wq.drew) := HIq.out.drew
            obtain ⟨f0, f1, f2, f3⟩ := HCk.out _ HI3.out
            clear c0 c1 c2 c3 f2 f3 HI2
            rcases hgm with ⟨hkd, hgm⟩ | ⟨hkd, hgm⟩
            all_goals (
              rw [hgm] at HGt
              rw [hkd] at HCk
              clear hgm hkd
              go_wp2_with fail
              go_region_held3 (fun W => W.cell? ⟨gb, 0, none⟩ = some (.string e.1.user) ∧ W.cell? ⟨gb, 1, none⟩ = some (.int .u64 (e.1.seq : Int))) (first | exact ⟨f0, f1⟩ | go_keep)
                (first
                 | (go_at_call 13; refine (HGt.out _ HI3.out).mono ?_; rintro _ vx ⟨rfl, hx⟩
                    have HI4 : Hid (Below V.heap.size V vx) := hx
                    obtain ⟨f0, f1, f2, f3⟩ := HCk.out _ hx
                    clear hx))
              go_wp2_with fail
              go_quiet (fail)
              have HI5 : Hid (Below V.heap.size V (vx.drewN nq)) := Below.drewM HI4.out _
              obtain ⟨g0, g1, g2, g3⟩ := HCk.out _ HI5.out
              clear f0 f1 f2 f3
              generalize vx.drewN nq = vy at HI5 g0 g1 g2 g3 ⊢
              go_wp2_with fail
              go_roundw
              case rel => exact ⟨1, hkn, by go_num, HI5.out⟩
              case measure => simp only [intOf]; omega)
          · have hjl : k - 1 < T.kvs.length := by omega
            have hjn : k - 1 < ct := by omega
            have hlt := HV.out.2.2.lt (show k - 1 < k by omega) hkl
            have hcm2 : (T.kvs[k - 1].1.cmp T.kvs[k].1) < 0 := (cmp_kb (HV.out.2.2.okk (List.getElem_mem hjl)) (HV.out.2.2.okk (List.getElem_mem hkl))).2 hlt
            have HCmp : Hid (∀ W : World, Below V.heap.size V W → Calls Tryd.prog 21 #[.agg #[.string T.kvs[k - 1].1.user, .int .u64 (T.kvs[k - 1].1.seq : Int), .int .i64 T.kvs[k - 1].1.kind], .agg #[.string T.kvs[k].1.user, .int .u64 (T.kvs[k].1.seq : Int), .int .i64 T.kvs[k].1.kind]] W fun e w' => e = .returned (.int .i64 (T.kvs[k - 1].1.cmp T.kvs[k].1)) ∧ Below V.heap.size V w') := fun W hW => by
              refine (rcompare_any _ _ _ _ _ _ W).mono ?_
              rintro _ w' ⟨rfl, hb'⟩
              exact ⟨rfl, hW.trans (hb'.mono hW.size)⟩
            have HCk : Hid (∀ W : World, Below V.heap.size V W → W.cell? ⟨gb, k * 4, none⟩ = some (.string T.kvs[k].1.user) ∧ W.cell? ⟨gb, k * 4 + 1, none⟩ = some (.int .u64 (T.kvs[k].1.seq : Int)) ∧ W.cell? ⟨gb, k * 4 + 2, none⟩ = some (.int .i64 T.kvs[k].1.kind) ∧ W.cell? ⟨gb, k * 4 + 3, none⟩ = some (.string T.kvs[k].2)) := fun W hW => by
              have := HCell.out W k hkl hW
              simp only [Nat.zero_add] at this
              exact this
            have HCj : Hid (∀ W : World, Below V.heap.size V W → W.cell? ⟨gb, (k - 1) * 4, none⟩ = some (.string T.kvs[k - 1].1.user) ∧ W.cell? ⟨gb, (k - 1) * 4 + 1, none⟩ = some (.int .u64 (T.kvs[k - 1].1.seq : Int)) ∧ W.cell? ⟨gb, (k - 1) * 4 + 2, none⟩ = some (.int .i64 T.kvs[k - 1].1.kind)) := fun W hW => by
              have := HCell.out W (k - 1) hjl hW
              simp only [Nat.zero_add] at this
              exact ⟨this.1, this.2.1, this.2.2.1⟩
            have HFd : Hid (¬ (T.kvs[k - 1].1.user = T.kvs[k].1.user ∧ (T.kvs[k - 1].1.seq : Int) = (T.kvs[k].1.seq : Int)) → lget T.kvs T.kvs[k].1.user T.kvs[k].1.seq = some T.kvs[k]) := fun hne => HV.out.2.2.finds hkl (.inr fun _ _ hc => hne ⟨hc.1, by rw [hc.2]⟩)
            have hidxj := fun W => idxKV W (a := some ⟨gb, 0, none⟩) (b := gb) (off := 0) (n := ct) (c := ct) rfl hjn
            rw [show ((k - 1 : Nat) : Int) = (k : Int) - 1 by omega] at hidxj
            simp only [Nat.zero_add] at hidx hidxj
            have hkp : 0 < k := by omega
            have hz0 : ((k : Int) == 0) = false := beq_eq_false_iff_ne.2 (by omega)
            have hz1 : (k == 0) = false := beq_eq_false_iff_ne.2 hk0
            have hwk : IntKind.i64.wrap ((k : Int) - 1) = (k : Int) - 1 := by rw [IntKind.wrap_i64]; omega
            generalize T.kvs[k - 1].1.cmp T.kvs[k].1 = K at HCmp hcm2
            have hK1 : decide ((0 : Int) ≤ K) = false := decide_eq_false (by omega)
            generalize lget T.kvs T.kvs[k].1.user T.kvs[k].1.seq = LG1 at HFd HGt
            generalize T.kvs[k] = e at HGt HOk HCk HCmp HFd c0 c1 c2 c3 hlt
            generalize T.kvs[k - 1] = f at HCj HCmp HFd hlt
            generalize k - 1 = j at hidxj HCj
            clear c0 c1 c2 c3 HCell hlt hkl hjl hjn hcm2
            obtain ⟨f0, f1, f2, f3⟩ := HCk.out _ HI2.out
            obtain ⟨j0, j1, j2⟩ := HCj.out _ HI2.out
            generalize ((e.1.seq : Nat) : Int) = sq at HGt HCk HCmp HFd f1
            generalize ((f.1.seq : Nat) : Int) = sj at HCj HCmp HFd j1
            go_wp2_with fail
            go_region_held3 (fun W => (W.cell? ⟨gb, k * 4, none⟩ = some (.string e.1.user) ∧ W.cell? ⟨gb, k * 4 + 1, none⟩ = some (.int .u64 sq) ∧ W.cell? ⟨gb, k * 4 + 2, none⟩ = some (.int .i64 e.1.kind)) ∧ W.cell? ⟨gb, j * 4, none⟩ = some (.string f.1.user) ∧ W.cell? ⟨gb, j * 4 + 1, none⟩ = some (.int .u64 sj) ∧ W.cell? ⟨gb, j * 4 + 2, none⟩ = some (.int .i64 f.1.kind)) (first | exact ⟨⟨f0, f1, f2⟩, j0, j1, j2⟩ | go_keep)
              (first
               | (go_at_call 21; refine (HCmp.out _ HI2.out).mono ?_; rintro _ vc ⟨rfl, hx⟩
                  have HIq : Hid (Below V.heap.size V vc) := hx
                  obtain ⟨f0, f1, f2, f3⟩ := HCk.out _ hx
                  obtain ⟨j0, j1, j2⟩ := HCj.out _ hx
                  clear hx))
            clear f0 f1 f2 f3 j0 j1 j2
            have HI3 : Hid (Below V.heap.size V vc.drew) := HIq.out.drew
            obtain ⟨f0, f1, f2, f3⟩ := HCk.out _ HI3.out
            obtain ⟨j0, j1, j2⟩ := HCj.out _ HI3.out
            clear f2 f3 j0 j1 j2
            have HU : Hid ((f.1.user.toList == e.1.user.toList) = true ↔ f.1.user = e.1.user) := by
              unfold Hid
              rw [beq_iff_eq, ByteArray.toList_eq, ByteArray.toList_eq]
              exact ⟨ba_ext, fun h => by rw [h]⟩
            have HQ : Hid ((sj == sq) = true ↔ sj = sq) := beq_iff_eq
            generalize hbu : (f.1.user.toList == e.1.user.toList) = bu at HU
            generalize hbs : (sj == sq) = bs at HQ
            have hbn : (sj != sq) = (!bs) := by rw [bne, hbs]
            by_cases hbb : bu = true ∧ bs = true
            · obtain ⟨rfl, rfl⟩ := hbb
              simp only [Bool.not_true] at hbn
              generalize (told LG1).1 = gx at HGt
              generalize (told LG1).2 = gm at HGt
              clear HFd HU HQ
              go_wp2_with fail
              go_region_held3 (fun W => W.cell? ⟨gb, k * 4, none⟩ = some (.string e.1.user) ∧ W.cell? ⟨gb, k * 4 + 1, none⟩ = some (.int .u64 sq)) (first | exact ⟨f0, f1⟩ | go_keep)
                (first
                 | (go_at_call 13; refine (HGt.out _ HI3.out).mono ?_; rintro _ vx ⟨rfl, hx⟩
                    have HI4 : Hid (Below V.heap.size V vx) := hx
                    obtain ⟨f0, f1, f2, f3⟩ := HCk.out _ hx
                    obtain ⟨j0, j1, j2⟩ := HCj.out _ hx
                    clear hx))
              go_wp2_with fail
              go_quiet (fail)
              have HI5 : Hid (Below V.heap.size V (vx.drewN nq)) := Below.drewM HI4.out _
              obtain ⟨g0, g1, g2, g3⟩ := HCk.out _ HI5.out
              clear f0 f1 f2 f3 j0 j1 j2
              generalize vx.drewN nq = vy at HI5 g0 g1 g2 g3 ⊢
              go_wp2_with fail
              go_roundw
              case rel => exact ⟨k + 1, hkn, by go_num, HI5.out⟩
              case measure => simp only [intOf]; omega
            · have HFd2 : Hid (LG1 = some e) := HFd.out fun hc => hbb ⟨HU.out.2 hc.1, HQ.out.2 hc.2⟩
              rw [HFd2.out] at HGt
              obtain ⟨hgx, hgm⟩ := told_own HOk.out
              rw [hgx] at HGt
              clear hgx HFd2 HFd HU HQ
              rcases hgm with ⟨hkd, hgm⟩ | ⟨hkd, hgm⟩
              all_goals (
                rw [hgm] at HGt
                rw [hkd] at HCk
                clear hgm hkd
                cases bu <;> cases bs
                case true.true => exact absurd ⟨rfl, rfl⟩ hbb
                all_goals (
                  clear hbb
                  simp only [Bool.not_true, Bool.not_false] at hbn
                  go_wp2_with fail
                  go_region_held3 (fun W => W.cell? ⟨gb, k * 4, none⟩ = some (.string e.1.user) ∧ W.cell? ⟨gb, k * 4 + 1, none⟩ = some (.int .u64 sq)) (first | exact ⟨f0, f1⟩ | go_keep)
                    (first
                     | (go_at_call 13; refine (HGt.out _ HI3.out).mono ?_; rintro _ vx ⟨rfl, hx⟩
                        have HI4 : Hid (Below V.heap.size V vx) := hx
                        obtain ⟨f0, f1, f2, f3⟩ := HCk.out _ hx
                        obtain ⟨j0, j1, j2⟩ := HCj.out _ hx
                        clear hx))
                  go_wp2_with fail
                  go_quiet (fail)
                  have HI5 : Hid (Below V.heap.size V (vx.drewN nq)) := Below.drewM HI4.out _
                  obtain ⟨g0, g1, g2, g3⟩ := HCk.out _ HI5.out
                  clear f0 f1 f2 f3 j0 j1 j2
                  generalize vx.drewN nq = vy at HI5 g0 g1 g2 g3 ⊢
                  go_wp2_with fail
                  go_roundw
                  case rel => exact ⟨k + 1, hkn, by go_num, HI5.out⟩
                  case measure => simp only [intOf]; omega))
        · have HF : Hid (Below w.heap.size w wr) := HV.out.2.1.base.trans (HI.out.mono HV.out.2.1.base.size)
          go_wp2
          go_ret
          exact ⟨ret1 rfl, HF.out⟩
end Go.Proofs.YtnggajconglfcaaDoor
