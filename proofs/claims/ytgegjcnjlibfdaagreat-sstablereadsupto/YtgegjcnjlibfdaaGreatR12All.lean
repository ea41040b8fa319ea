/- The contract of the document's own All. -/
import Derived.Test.YtgegjcnjlibfdaaGreatR12Read
namespace Go.Proofs.YtgegjcnjlibfdaaGreat
set_option maxRecDepth 100000
open Go.RowKit
set_option linter.unusedVariables false
set_option linter.unusedSimpArgs false
theorem plBl_at {b : List UInt8} {pl : List PlR} {k : Nat} (hk : k < pl.length) (hk2 : k < (plBl b pl).length) : (plBl b pl)[k] = (segB b pl[k].p (pl[k].s + 4), pl[k].k) := by simp [plBl]
set_option maxHeartbeats 8000000 in
theorem rall12 {W : World} {B q : Nat} {a : Option Addr} {n c : Nat} {b : List UInt8} {fa fn cnt : Nat} {pl : List PlR} {T : TD} (h : RTb W B q a n c b fa fn cnt pl) (hb : BsAt W a n c b) (hn : n ≤ 3000000) (hin : ∀ d ∈ pl, d.p + d.s + 4 ≤ n) (hT : T.blocks = plBl b pl) (hc : T.told = cnt) (hm : pl.length ≤ 750000) (hct : cnt < 4294967296) :
    Calls Tryz.prog 16 #[at_ q] W fun r w' => Below W.heap.size W w' ∧ ((∃ er : Nat, allT T = .error er ∧ r = .returned (.tuple #[.slice none 0 0, .int .i64 (er : Int)])) ∨ ∃ l a' c', allT T = .ok l ∧ r = .returned (.tuple #[.slice a' l.length c', .int .i64 0]) ∧ KsAt w' a' l.length c' l) := by
  have hmix : Tryz.prog.follows Departure.mixedOrders = true := by kernel_rfl
  have HR : Hid (RTb W B q a n c b fa fn cnt pl ∧ BsAt W a n c b ∧ (∀ d ∈ pl, d.p + d.s + 4 ≤ n) ∧ T.blocks = plBl b pl ∧ T.told = cnt) := ⟨h, hb, hin, hT, hc⟩
  obtain ⟨m, HM⟩ : ∃ m, Hid (pl.length = m) := ⟨_, (rfl : pl.length = pl.length)⟩
  obtain ⟨af, al, cf, cl, t0, _, t2, t3, _, _, hql⟩ := h.cells
  have HC : Hid (∀ V, Below W.heap.size W V → V.cell? ⟨q, 2, none⟩ = some (.slice al m cl) ∧ V.cell? ⟨q, 3, none⟩ = some (.int .u64 (cnt : Int))) := fun V hV => by
    rw [hV.cell hql, hV.cell hql]
    exact ⟨by rw [← HM.out]; exact t2, t3⟩
  have HTL : Hid (T.blocks.length = m) := by unfold Hid; rw [hT]; unfold plBl; rw [List.length_map]; exact HM.out
  rw [HM.out] at hm
  clear h hb hin hT t0 t2 t3
  go_enter Tryz.func16, Tryz.ntmps16
  go_wp2_with fail
  go_loopw [4, 5] (fun x4 x5 wr => ∃ (k na ca : Nat) (aa : Option Addr), k ≤ m ∧ na ≤ 1000000 * k ∧ x5 = .int .i64 (k : Int) ∧ x4 = .slice aa na ca ∧ Hid (∃ acc, Below W.heap.size W wr ∧ OwnK wr W.heap.size aa na ca acc ∧ allGo [] T.blocks = allGo acc (T.blocks.drop k))) (fun _ x _ => m - (intOf x).toNat)
  case atStart => exact ⟨0, 0, 0, none, Nat.zero_le _, by omega, rfl, rfl, [], Below.refl _ _, OwnK.nil _ _, rfl⟩
  case round =>
    obtain ⟨k, nA, cA, aA, hk, hnA, rfl, rfl, HRR⟩ := hrel
    obtain ⟨acc, hb1, ho1, hg1⟩ := HRR.out
    obtain ⟨y2, y3⟩ := HC.out wr hb1
    by_cases hkm : k < m
    · have hkp : k < pl.length := by rw [HM.out]; exact hkm
      have hkt : k < T.blocks.length := by rw [HTL.out]; exact hkm
      have HI : Hid (Below W.heap.size W wr ∧ OwnK wr W.heap.size aA nA cA acc ∧ allGo [] T.blocks = allGo acc (T.blocks.drop k)) := ⟨hb1, ho1, hg1⟩
      have HRS : Hid (rdS T.blocks[k] = readS (segB b pl[k].p (pl[k].s + 4)) pl[k].k) := by
        unfold Hid rdS
        have : T.blocks[k] = (plBl b pl)[k]'(by rw [← HR.out.2.2.2.1]; exact hkt) := by simp only [HR.out.2.2.2.1]
        rw [this, plBl_at hkp]
      have hrd := rread12 (HR.out.1.below HI.out.1) (HR.out.2.1.below (Nat.le_refl _) HI.out.1) hn hkp HR.out.2.2.1
      have HGE : Hid (∀ er, readS (segB b pl[k].p (pl[k].s + 4)) pl[k].k = .error er → allT T = .error er) := fun er he => by
        refine allT_no ?_
        rw [HI.out.2.2]
        exact go_err hkt (HRS.out.trans he)
      have HGO : Hid (∀ l, readS (segB b pl[k].p (pl[k].s + 4)) pl[k].k = .ok l → allGo [] T.blocks = if clash acc l = true then .error 121 else allGo (acc ++ l) (T.blocks.drop (k + 1))) := fun l he => by
        rw [HI.out.2.2]
        exact go_ok hkt (HRS.out.trans he)
      clear HRS hb1 ho1 hg1 HRR
      generalize readS (segB b pl[k].p (pl[k].s + 4)) pl[k].k = rs at *
      have hnA2 : nA ≤ 750000000000 := by omega
      go_wp2_with fail
      refine hrd.mono ?_
      rintro _ w1 ⟨hb1, ⟨er, he, hne0, rfl⟩ | ⟨l, a5, c5, he, hl0, hl3, rfl, hks, _⟩⟩
      · have HE : Hid (allT T = .error er ∧ Below W.heap.size W w1) := ⟨HGE.out er he, HI.out.1.trans (hb1.mono HI.out.1.size)⟩
        have hbq : ((er : Int) != 0) = true := by rw [bne_iff_ne]; omega
        clear hb1 he hrd
        go_wp2
        go_ret2
        exact ⟨HE.out.2, .inl ⟨er, HE.out.1, ret2 rfl rfl⟩⟩
      · have HS : Hid (Below W.heap.size W w1 ∧ OwnK w1 W.heap.size aA nA cA acc ∧ KsAt w1 a5 l.length c5 l ∧ allGo [] T.blocks = if clash acc l = true then .error 121 else allGo (acc ++ l) (T.blocks.drop (k + 1))) := ⟨HI.out.1.trans (hb1.mono HI.out.1.size), HI.out.2.1.below hb1, hks, HGO.out l he⟩
        obtain ⟨ln, HLN⟩ : ∃ ln, Hid (l.length = ln) := ⟨_, (rfl : l.length = l.length)⟩
        rw [HLN.out] at hl0 hl3 HS ⊢
        clear hb1 he hrd hks HGE HGO HI y2 y3
        go_wp2_with fail
        obtain ⟨b2, off2, hab2, hcs2⟩ := HS.out.2.2.1.cells4 hl0
        have HAB : Hid (a5 = some ⟨b2, off2, none⟩) := hab2
        by_cases hn0 : nA = 0
        · subst hn0
          clear hcs2 hab2
          refine wp_region_noPanic ?_
          refine wp_region_held_drew (S := fun V => True) hmix trivial (fun hHeld => ?_)
          refine wpAnyH_take (i := 0) (v := ?_) rfl (by kernel_rfl) (by kernel_rfl) (by kernel_rfl) (fun _ _ _ h => h) (Or.inl ⟨by rfl, ?_⟩) hHeld ?_
          rotate_left
          · intro w hSw
            try dsimp only at hSw
            go_simp
            try with_reducible rfl
          try simp only [Act.put, List.getElem_toArray, List.getElem_cons_succ, List.getElem_cons_zero, Array.getInternal_eq_getElem, List.setIfInBounds_toArray, List.set_cons_zero, List.set_cons_succ]
          refine wpAnyH_take (i := 1) (v := ?_) rfl (by kernel_rfl) (by kernel_rfl) (by kernel_rfl) (fun _ _ _ h => h) (Or.inl ⟨by rfl, ?_⟩) hHeld ?_
          rotate_left
          · intro w hSw
            try dsimp only at hSw
            go_simp
            try with_reducible rfl
          try simp only [Act.put, List.getElem_toArray, List.getElem_cons_succ, List.getElem_cons_zero, Array.getInternal_eq_getElem, List.setIfInBounds_toArray, List.set_cons_zero, List.set_cons_succ]
          refine wpAnyH_take (i := 2) (v := .bool false) rfl (by kernel_rfl) (by kernel_rfl) (by kernel_rfl) (fun _ _ _ h => h) (Or.inl ⟨by rfl, ?_⟩) hHeld ?_
          · intro w hSw
            try dsimp only at hSw
            go_simp
            try with_reducible rfl
          try simp only [Act.put, List.getElem_toArray, List.getElem_cons_succ, List.getElem_cons_zero, Array.getInternal_eq_getElem, List.setIfInBounds_toArray, List.set_cons_zero, List.set_cons_succ]
          refine wpAnyH_take (i := 3) (v := ?_) rfl (by kernel_rfl) (by kernel_rfl) (by kernel_rfl) (fun _ _ _ h => h) (Or.inl ⟨by rfl, ?_⟩) hHeld ?_
          rotate_left
          · intro w hSw
            try dsimp only at hSw
            go_simp
            try with_reducible rfl
          try simp only [Act.put, List.getElem_toArray, List.getElem_cons_succ, List.getElem_cons_zero, Array.getInternal_eq_getElem, List.setIfInBounds_toArray, List.set_cons_zero, List.set_cons_succ]
          refine wpAnyH_take (i := 4) (v := undef) rfl (by kernel_rfl) (by kernel_rfl) (by kernel_rfl) (fun _ _ _ h => h) (Or.inr ⟨by rfl, rfl⟩) hHeld ?_
          try simp only [Act.put, List.getElem_toArray, List.getElem_cons_succ, List.getElem_cons_zero, Array.getInternal_eq_getElem, List.setIfInBounds_toArray, List.set_cons_zero, List.set_cons_succ]
          refine wpAnyH_take (i := 5) (v := undef) rfl (by kernel_rfl) (by kernel_rfl) (by kernel_rfl) (fun _ _ _ h => h) (Or.inr ⟨by rfl, rfl⟩) hHeld ?_
          try simp only [Act.put, List.getElem_toArray, List.getElem_cons_succ, List.getElem_cons_zero, Array.getInternal_eq_getElem, List.setIfInBounds_toArray, List.set_cons_zero, List.set_cons_succ]
          refine wpAnyH_take (i := 6) (v := undef) rfl (by kernel_rfl) (by kernel_rfl) (by kernel_rfl) (fun _ _ _ h => h) (Or.inr ⟨by rfl, rfl⟩) hHeld ?_
          try simp only [Act.put, List.getElem_toArray, List.getElem_cons_succ, List.getElem_cons_zero, Array.getInternal_eq_getElem, List.setIfInBounds_toArray, List.set_cons_zero, List.set_cons_succ]
          refine wpAnyH_take (i := 7) (v := undef) rfl (by kernel_rfl) (by kernel_rfl) (by kernel_rfl) (fun _ _ _ h => h) (Or.inr ⟨by rfl, rfl⟩) hHeld ?_
          try simp only [Act.put, List.getElem_toArray, List.getElem_cons_succ, List.getElem_cons_zero, Array.getInternal_eq_getElem, List.setIfInBounds_toArray, List.set_cons_zero, List.set_cons_succ]
          refine wpAnyH_take (i := 8) (v := undef) rfl (by kernel_rfl) (by kernel_rfl) (by kernel_rfl) (fun _ _ _ h => h) (Or.inr ⟨by rfl, rfl⟩) hHeld ?_
          try simp only [Act.put, List.getElem_toArray, List.getElem_cons_succ, List.getElem_cons_zero, Array.getInternal_eq_getElem, List.setIfInBounds_toArray, List.set_cons_zero, List.set_cons_succ]
          refine wpAnyH_take (i := 9) (v := undef) rfl (by kernel_rfl) (by kernel_rfl) (by kernel_rfl) (fun _ _ _ h => h) (Or.inr ⟨by rfl, rfl⟩) hHeld ?_
          try simp only [Act.put, List.getElem_toArray, List.getElem_cons_succ, List.getElem_cons_zero, Array.getInternal_eq_getElem, List.setIfInBounds_toArray, List.set_cons_zero, List.set_cons_succ]
          refine wpAnyH_take (i := 10) (v := undef) rfl (by kernel_rfl) (by kernel_rfl) (by kernel_rfl) (fun _ _ _ h => h) (Or.inr ⟨by rfl, rfl⟩) hHeld ?_
          try simp only [Act.put, List.getElem_toArray, List.getElem_cons_succ, List.getElem_cons_zero, Array.getInternal_eq_getElem, List.setIfInBounds_toArray, List.set_cons_zero, List.set_cons_succ]
          refine wpAnyH_take (i := 11) (v := undef) rfl (by kernel_rfl) (by kernel_rfl) (by kernel_rfl) (fun _ _ _ h => h) (Or.inr ⟨by rfl, rfl⟩) hHeld ?_
          try simp only [Act.put, List.getElem_toArray, List.getElem_cons_succ, List.getElem_cons_zero, Array.getInternal_eq_getElem, List.setIfInBounds_toArray, List.set_cons_zero, List.set_cons_succ]
          refine wpAnyH_take (i := 12) (v := undef) rfl (by kernel_rfl) (by kernel_rfl) (by kernel_rfl) (fun _ _ _ h => h) (Or.inr ⟨by rfl, rfl⟩) hHeld ?_
          try simp only [Act.put, List.getElem_toArray, List.getElem_cons_succ, List.getElem_cons_zero, Array.getInternal_eq_getElem, List.setIfInBounds_toArray, List.set_cons_zero, List.set_cons_succ]
          refine wpAnyH_take (i := 13) (v := undef) rfl (by kernel_rfl) (by kernel_rfl) (by kernel_rfl) (fun _ _ _ h => h) (Or.inr ⟨by rfl, rfl⟩) hHeld ?_
          try simp only [Act.put, List.getElem_toArray, List.getElem_cons_succ, List.getElem_cons_zero, Array.getInternal_eq_getElem, List.setIfInBounds_toArray, List.set_cons_zero, List.set_cons_succ]
          refine wpAnyH_take (i := 14) (v := undef) rfl (by kernel_rfl) (by kernel_rfl) (by kernel_rfl) (fun _ _ _ h => h) (Or.inr ⟨by rfl, rfl⟩) hHeld ?_
          try simp only [Act.put, List.getElem_toArray, List.getElem_cons_succ, List.getElem_cons_zero, Array.getInternal_eq_getElem, List.setIfInBounds_toArray, List.set_cons_zero, List.set_cons_succ]
          refine wpAnyH_ready (rs := [15]) (by kernel_rfl) (by simp) ?_
          refine AllReadyH.cons rfl (fun K hK => ?_) (AllReadyH.nil)
          go_simp
          refine hK.out _ _ hHeld (fun hHeld => ?_)
          clear hK K
          try simp only [Act.put, List.getElem_toArray, List.getElem_cons_succ, List.getElem_cons_zero, Array.getInternal_eq_getElem, List.setIfInBounds_toArray, List.set_cons_zero, List.set_cons_succ]
          refine wpAnyH_take (i := 16) (v := undef) rfl (by kernel_rfl) (by kernel_rfl) (by kernel_rfl) (fun _ _ _ h => h) (Or.inr ⟨by rfl, rfl⟩) hHeld ?_
          try simp only [Act.put, List.getElem_toArray, List.getElem_cons_succ, List.getElem_cons_zero, Array.getInternal_eq_getElem, List.setIfInBounds_toArray, List.set_cons_zero, List.set_cons_succ]
          refine wpAnyH_take (i := 17) (v := .bool false) rfl (by kernel_rfl) (by kernel_rfl) (by kernel_rfl) (fun _ _ _ h => h) (Or.inl ⟨by rfl, ?_⟩) hHeld ?_
          · intro w hSw
            try dsimp only at hSw
            go_simp
            try with_reducible rfl
          try simp only [Act.put, List.getElem_toArray, List.getElem_cons_succ, List.getElem_cons_zero, Array.getInternal_eq_getElem, List.setIfInBounds_toArray, List.set_cons_zero, List.set_cons_succ]
          refine wpAnyH_done (by kernel_rfl) (NoPanic.normal ?_) _
          have HNC : Hid (clash acc l = false) := no_clash0 (List.eq_nil_of_length_eq_zero HS.out.2.1.size)
          go_wp2_with (first
            | (at_builtin; refine wpList_appK _ rfl (.tmp 44) (.tmp 45) rfl W.heap.size aA 0 cA acc rfl (HS.out.2.1.below (Below.refl _ _).drew) a5 ln c5 l rfl (HS.out.2.2.1.below (Below.refl _ _).drew) (fun e => by have h1 := HAB.out; rw [e] at h1; cases h1) (by omega) (HS.out.1.size) ?_
               intro a7 c7 w7 ho7 hb7 hg7
               rw [Nat.zero_add] at ho7
               have H7 : Hid (Below W.heap.size W w7 ∧ OwnK w7 W.heap.size a7 (ln) c7 (acc ++ l)) := ⟨(HS.out.1.drew).trans hb7, ho7⟩
               clear ho7 hb7 hg7))
          go_roundw
          case rel => exact ⟨k + 1, ln, c7, a7, hkm, by omega, by go_num, rfl, acc ++ l, H7.out.1, H7.out.2, by rw [HS.out.2.2.2, HNC.out]; rfl⟩
          case measure => simp only [intOf]; omega
        · obtain ⟨j0, j1, j2, j3⟩ := hcs2 0 (by rw [HLN.out]; exact hl0)
          obtain ⟨b, off, hab, hcs⟩ := HS.out.2.1.ks.cells4 (by omega)
          obtain ⟨k0, k1, k2, k3⟩ := hcs (nA - 1) (by rw [HS.out.2.1.size]; omega)
          have hi1 := fun V => idxKV V (a := aA) (b := b) (off := off) (n := nA) (c := cA) (i := nA - 1) hab (by omega)
          rw [show ((nA - 1 : Nat) : Int) = (nA : Int) - 1 by omega] at hi1
          have hi2 : ∀ V, (Instr.indexAt 23 (.slice a5 ln c5) (.int .i64 0)).run Tryz.prog V = .ok (.pointer (some ⟨b2, off2, none⟩)) V := fun V => by
            have := idxKV V (a := a5) (b := b2) (off := off2) (n := ln) (c := c5) (i := 0) hab2 hl0
            simpa using this
          simp only [Nat.zero_mul, Nat.add_zero] at j0 j1 j2
          clear hab2
          have HCL0 : Hid (clash acc l = decide ((0 : Int) ≤ (acc[nA - 1]'(by rw [HS.out.2.1.size]; omega)).1.cmp (l[0]'(by rw [HLN.out]; exact hl0)).1)) := clash_at HS.out.2.1.size (by omega) (by rw [HLN.out]; exact hl0)
          generalize (acc[nA - 1]'(by rw [HS.out.2.1.size]; omega)).1 = eA at k0 k1 k2 HCL0
          generalize (l[0]'(by rw [HLN.out]; exact hl0)).1 = eL at j0 j1 j2 HCL0
          have hcp := fun V => rcompare_any eA.user eL.user (eA.seq : Int) (eL.seq : Int) eA.kind eL.kind V
          have HCL2 : Hid (clash acc l = decide (0 ≤ kcmp eA.user.toList eL.user.toList (eA.seq : Int) (eL.seq : Int) eA.kind eL.kind)) := HCL0.out
          clear HCL0
          generalize hcv0 : kcmp eA.user.toList eL.user.toList (eA.seq : Int) (eL.seq : Int) eA.kind eL.kind = cv at hcp HCL2
          have HCL : Hid (clash acc l = decide (0 ≤ cv)) := HCL2.out
          have HCP : Hid (∀ V, Calls Tryz.prog 45 #[.agg #[.string eA.user, .int .u64 (eA.seq : Int), .int .i64 eA.kind], .agg #[.string eL.user, .int .u64 (eL.seq : Int), .int .i64 eL.kind]] V fun e w' => e = .returned (.int .i64 cv) ∧ Below V.heap.size V w') := hcp
          have hwx : IntKind.i64.wrap ((nA : Int) - 1) = (nA : Int) - 1 := by
            have := i64_wrap (nA - 1) (by omega)
            rwa [show ((nA - 1 : Nat) : Int) = (nA : Int) - 1 by omega] at this
          obtain ⟨ko, hko⟩ : ∃ ko, off + (nA - 1) * 4 = ko := ⟨_, rfl⟩
          rw [hko] at k0 k1 k2 hi1
          have HKC : Hid (∀ V, Below w1.heap.size w1 V → V.cell? ⟨b, ko, none⟩ = some (.string eA.user) ∧ V.cell? ⟨b, ko + 1, none⟩ = some (.int .u64 (eA.seq : Int)) ∧ V.cell? ⟨b, ko + 2, none⟩ = some (.int .i64 eA.kind) ∧ V.cell? ⟨b2, off2, none⟩ = some (.string eL.user) ∧ V.cell? ⟨b2, off2 + 1, none⟩ = some (.int .u64 (eL.seq : Int)) ∧ V.cell? ⟨b2, off2 + 2, none⟩ = some (.int .i64 eL.kind)) := fun V hV => by
            have tr : ∀ {a : Addr} {v : Value}, w1.cell? a = some v → V.cell? a = some v := fun {a v} hv => by rw [hV.cell (World.block_lt_of_cell? w1 _ hv)]; exact hv
            exact ⟨tr k0, tr k1, tr k2, tr j0, tr j1, tr j2⟩
          have hpos : 0 < nA := by omega
          clear k0 k1 k2 k3 j0 j1 j2 j3 hcs hcs2 hcv0 hcp HCL2 hab hko
          refine wp_region_noPanic ?_
          refine wp_region_held_drew (S := fun V => V.cell? ⟨b, ko, none⟩ = some (.string eA.user) ∧ V.cell? ⟨b, ko + 1, none⟩ = some (.int .u64 (eA.seq : Int)) ∧ V.cell? ⟨b, ko + 2, none⟩ = some (.int .i64 eA.kind) ∧ V.cell? ⟨b2, off2, none⟩ = some (.string eL.user) ∧ V.cell? ⟨b2, off2 + 1, none⟩ = some (.int .u64 (eL.seq : Int)) ∧ V.cell? ⟨b2, off2 + 2, none⟩ = some (.int .i64 eL.kind)) hmix (HKC.out _ (Below.refl _ _).drew) (fun hHeld => ?_)
          refine wpAnyH_take (i := 0) (v := ?_) rfl (by kernel_rfl) (by kernel_rfl) (by kernel_rfl) (fun _ _ _ h => h) (Or.inl ⟨by rfl, ?_⟩) hHeld ?_
          rotate_left
          · intro w hSw
            try dsimp only at hSw
            go_simp
            try with_reducible rfl
          try simp only [Act.put, List.getElem_toArray, List.getElem_cons_succ, List.getElem_cons_zero, Array.getInternal_eq_getElem, List.setIfInBounds_toArray, List.set_cons_zero, List.set_cons_succ]
          refine wpAnyH_take (i := 1) (v := ?_) rfl (by kernel_rfl) (by kernel_rfl) (by kernel_rfl) (fun _ _ _ h => h) (Or.inl ⟨by rfl, ?_⟩) hHeld ?_
          rotate_left
          · intro w hSw
            try dsimp only at hSw
            go_simp
            try with_reducible rfl
          try simp only [Act.put, List.getElem_toArray, List.getElem_cons_succ, List.getElem_cons_zero, Array.getInternal_eq_getElem, List.setIfInBounds_toArray, List.set_cons_zero, List.set_cons_succ]
          refine wpAnyH_take (i := 2) (v := .bool true) rfl (by kernel_rfl) (by kernel_rfl) (by kernel_rfl) (fun _ _ _ h => h) (Or.inl ⟨by rfl, ?_⟩) hHeld ?_
          · intro w hSw
            try dsimp only at hSw
            go_simp
            try with_reducible rfl
          try simp only [Act.put, List.getElem_toArray, List.getElem_cons_succ, List.getElem_cons_zero, Array.getInternal_eq_getElem, List.setIfInBounds_toArray, List.set_cons_zero, List.set_cons_succ]
          refine wpAnyH_take (i := 3) (v := ?_) rfl (by kernel_rfl) (by kernel_rfl) (by kernel_rfl) (fun _ _ _ h => h) (Or.inl ⟨by rfl, ?_⟩) hHeld ?_
          rotate_left
          · intro w hSw
            try dsimp only at hSw
            go_simp
            try with_reducible rfl
          try simp only [Act.put, List.getElem_toArray, List.getElem_cons_succ, List.getElem_cons_zero, Array.getInternal_eq_getElem, List.setIfInBounds_toArray, List.set_cons_zero, List.set_cons_succ]
          refine wpAnyH_take (i := 4) (v := ?_) rfl (by kernel_rfl) (by kernel_rfl) (by kernel_rfl) (fun _ _ _ h => h) (Or.inl ⟨by rfl, ?_⟩) hHeld ?_
          rotate_left
          · intro w hSw
            try dsimp only at hSw
            go_simp
            try with_reducible rfl
          try simp only [Act.put, List.getElem_toArray, List.getElem_cons_succ, List.getElem_cons_zero, Array.getInternal_eq_getElem, List.setIfInBounds_toArray, List.set_cons_zero, List.set_cons_succ]
          refine wpAnyH_take (i := 5) (v := ?_) rfl (by kernel_rfl) (by kernel_rfl) (by kernel_rfl) (fun _ _ _ h => h) (Or.inl ⟨by rfl, ?_⟩) hHeld ?_
          rotate_left
          · intro w hSw
            try dsimp only at hSw
            go_simp
            try with_reducible rfl
          try simp only [Act.put, List.getElem_toArray, List.getElem_cons_succ, List.getElem_cons_zero, Array.getInternal_eq_getElem, List.setIfInBounds_toArray, List.set_cons_zero, List.set_cons_succ]
          refine wpAnyH_take (i := 6) (v := ?_) rfl (by kernel_rfl) (by kernel_rfl) (by kernel_rfl) (fun _ _ _ h => h) (Or.inl ⟨by rfl, ?_⟩) hHeld ?_
          rotate_left
          · intro w hSw
            try dsimp only at hSw
            go_simp
            try with_reducible rfl
          try simp only [Act.put, List.getElem_toArray, List.getElem_cons_succ, List.getElem_cons_zero, Array.getInternal_eq_getElem, List.setIfInBounds_toArray, List.set_cons_zero, List.set_cons_succ]
          refine wpAnyH_take (i := 7) (v := ?_) rfl (by kernel_rfl) (by kernel_rfl) (by kernel_rfl) (fun _ _ _ h => h) (Or.inl ⟨by rfl, ?_⟩) hHeld ?_
          rotate_left
          · intro w hSw
            try dsimp only at hSw
            go_simp
            try with_reducible rfl
          try simp only [Act.put, List.getElem_toArray, List.getElem_cons_succ, List.getElem_cons_zero, Array.getInternal_eq_getElem, List.setIfInBounds_toArray, List.set_cons_zero, List.set_cons_succ]
          refine wpAnyH_take (i := 8) (v := ?_) rfl (by kernel_rfl) (by kernel_rfl) (by kernel_rfl) (fun _ _ _ h => h) (Or.inl ⟨by rfl, ?_⟩) hHeld ?_
          rotate_left
          · intro w hSw
            try dsimp only at hSw
            go_simp
            try with_reducible rfl
          try simp only [Act.put, List.getElem_toArray, List.getElem_cons_succ, List.getElem_cons_zero, Array.getInternal_eq_getElem, List.setIfInBounds_toArray, List.set_cons_zero, List.set_cons_succ]
          refine wpAnyH_take (i := 9) (v := ?_) rfl (by kernel_rfl) (by kernel_rfl) (by kernel_rfl) (fun _ _ _ h => h) (Or.inl ⟨by rfl, ?_⟩) hHeld ?_
          rotate_left
          · intro w hSw
            try dsimp only at hSw
            go_simp
            try with_reducible rfl
          try simp only [Act.put, List.getElem_toArray, List.getElem_cons_succ, List.getElem_cons_zero, Array.getInternal_eq_getElem, List.setIfInBounds_toArray, List.set_cons_zero, List.set_cons_succ]
          refine wpAnyH_take (i := 10) (v := ?_) rfl (by kernel_rfl) (by kernel_rfl) (by kernel_rfl) (fun _ _ _ h => h) (Or.inl ⟨by rfl, ?_⟩) hHeld ?_
          rotate_left
          · intro w hSw
            try dsimp only at hSw
            go_simp
            try with_reducible rfl
          try simp only [Act.put, List.getElem_toArray, List.getElem_cons_succ, List.getElem_cons_zero, Array.getInternal_eq_getElem, List.setIfInBounds_toArray, List.set_cons_zero, List.set_cons_succ]
          refine wpAnyH_take (i := 11) (v := ?_) rfl (by kernel_rfl) (by kernel_rfl) (by kernel_rfl) (fun _ _ _ h => h) (Or.inl ⟨by rfl, ?_⟩) hHeld ?_
          rotate_left
          · intro w hSw
            try dsimp only at hSw
            go_simp
            try with_reducible rfl
          try simp only [Act.put, List.getElem_toArray, List.getElem_cons_succ, List.getElem_cons_zero, Array.getInternal_eq_getElem, List.setIfInBounds_toArray, List.set_cons_zero, List.set_cons_succ]
          refine wpAnyH_take (i := 12) (v := ?_) rfl (by kernel_rfl) (by kernel_rfl) (by kernel_rfl) (fun _ _ _ h => h) (Or.inl ⟨by rfl, ?_⟩) hHeld ?_
          rotate_left
          · intro w hSw
            try dsimp only at hSw
            go_simp
            try with_reducible rfl
          try simp only [Act.put, List.getElem_toArray, List.getElem_cons_succ, List.getElem_cons_zero, Array.getInternal_eq_getElem, List.setIfInBounds_toArray, List.set_cons_zero, List.set_cons_succ]
          refine wpAnyH_take (i := 13) (v := ?_) rfl (by kernel_rfl) (by kernel_rfl) (by kernel_rfl) (fun _ _ _ h => h) (Or.inl ⟨by rfl, ?_⟩) hHeld ?_
          rotate_left
          · intro w hSw
            try dsimp only at hSw
            go_simp
            try with_reducible rfl
          try simp only [Act.put, List.getElem_toArray, List.getElem_cons_succ, List.getElem_cons_zero, Array.getInternal_eq_getElem, List.setIfInBounds_toArray, List.set_cons_zero, List.set_cons_succ]
          refine wpAnyH_take (i := 14) (v := ?_) rfl (by kernel_rfl) (by kernel_rfl) (by kernel_rfl) (fun _ _ _ h => h) (Or.inl ⟨by rfl, ?_⟩) hHeld ?_
          rotate_left
          · intro w hSw
            try dsimp only at hSw
            go_simp
            try with_reducible rfl
          try simp only [Act.put, List.getElem_toArray, List.getElem_cons_succ, List.getElem_cons_zero, Array.getInternal_eq_getElem, List.setIfInBounds_toArray, List.set_cons_zero, List.set_cons_succ]
          refine wpAnyH_ready (rs := [15]) (by kernel_rfl) (by simp) ?_
          refine AllReadyH.cons rfl (fun K hK => ?_) (AllReadyH.nil)
          go_simp
          refine (HCP.out _).mono ?_
          rintro _ v1 ⟨rfl, hb9⟩
          have hbv : Below w1.heap.size w1 v1 := (Below.refl _ _).drew.trans hb9
          have HV : Hid (Below W.heap.size W v1 ∧ OwnK v1 W.heap.size aA nA cA acc ∧ KsAt v1 a5 ln c5 l) := ⟨HS.out.1.trans (hbv.mono HS.out.1.size), HS.out.2.1.below hbv, HS.out.2.2.1.below hbv⟩
          have hsv := HKC.out v1 hbv
          clear hb9 hbv hHeld
          refine hK.out _ _ hsv (fun hHeld => ?_)
          clear hK K
          try simp only [Act.put, List.getElem_toArray, List.getElem_cons_succ, List.getElem_cons_zero, Array.getInternal_eq_getElem, List.setIfInBounds_toArray, List.set_cons_zero, List.set_cons_succ]
          by_cases hcv : 0 ≤ cv
          · have hcd : 0 ≤ cv := hcv
            refine wpAnyH_take (i := 16) (v := .bool true) rfl (by kernel_rfl) (by kernel_rfl) (by kernel_rfl) (fun _ _ _ h => h) (Or.inl ⟨by rfl, ?_⟩) hHeld ?_
            · intro w hSw
              try dsimp only at hSw
              go_simp
              try with_reducible rfl
            try simp only [Act.put, List.getElem_toArray, List.getElem_cons_succ, List.getElem_cons_zero, Array.getInternal_eq_getElem, List.setIfInBounds_toArray, List.set_cons_zero, List.set_cons_succ]
            refine wpAnyH_take (i := 17) (v := .bool true) rfl (by kernel_rfl) (by kernel_rfl) (by kernel_rfl) (fun _ _ _ h => h) (Or.inl ⟨by rfl, ?_⟩) hHeld ?_
            · intro w hSw
              try dsimp only at hSw
              go_simp
              try with_reducible rfl
            try simp only [Act.put, List.getElem_toArray, List.getElem_cons_succ, List.getElem_cons_zero, Array.getInternal_eq_getElem, List.setIfInBounds_toArray, List.set_cons_zero, List.set_cons_succ]
            refine wpAnyH_done (by kernel_rfl) (NoPanic.normal ?_) _
            have HNC : Hid (allT T = .error 121) := by
              refine allT_no ?_
              rw [HS.out.2.2.2, HCL.out, decide_eq_true hcv]
              rfl
            go_wp2
            go_ret2
            exact ⟨HV.out.1, .inl ⟨121, HNC.out, ret2 rfl rfl⟩⟩
          · have hcd : ¬ 0 ≤ cv := hcv
            refine wpAnyH_take (i := 16) (v := .bool false) rfl (by kernel_rfl) (by kernel_rfl) (by kernel_rfl) (fun _ _ _ h => h) (Or.inl ⟨by rfl, ?_⟩) hHeld ?_
            · intro w hSw
              try dsimp only at hSw
              go_simp
              try with_reducible rfl
            try simp only [Act.put, List.getElem_toArray, List.getElem_cons_succ, List.getElem_cons_zero, Array.getInternal_eq_getElem, List.setIfInBounds_toArray, List.set_cons_zero, List.set_cons_succ]
            refine wpAnyH_take (i := 17) (v := .bool false) rfl (by kernel_rfl) (by kernel_rfl) (by kernel_rfl) (fun _ _ _ h => h) (Or.inl ⟨by rfl, ?_⟩) hHeld ?_
            · intro w hSw
              try dsimp only at hSw
              go_simp
              try with_reducible rfl
            try simp only [Act.put, List.getElem_toArray, List.getElem_cons_succ, List.getElem_cons_zero, Array.getInternal_eq_getElem, List.setIfInBounds_toArray, List.set_cons_zero, List.set_cons_succ]
            refine wpAnyH_done (by kernel_rfl) (NoPanic.normal ?_) _
            have HNC : Hid (clash acc l = false) := (by rw [HCL.out]; exact decide_eq_false hcv)
            go_wp2_with (first
              | (at_builtin; refine wpList_appK _ rfl (.tmp 44) (.tmp 45) rfl W.heap.size aA nA cA acc rfl (HV.out.2.1) a5 ln c5 l rfl (HV.out.2.2) (fun e => by have h1 := HAB.out; rw [e] at h1; cases h1) (by omega) (HV.out.1.size) ?_
                 intro a7 c7 w7 ho7 hb7 hg7
                 skip
                 have H7 : Hid (Below W.heap.size W w7 ∧ OwnK w7 W.heap.size a7 (nA + ln) c7 (acc ++ l)) := ⟨(HV.out.1).trans hb7, ho7⟩
                 clear ho7 hb7 hg7))
            go_roundw
            case rel => exact ⟨k + 1, nA + ln, c7, a7, hkm, by omega, by go_num, rfl, acc ++ l, H7.out.1, H7.out.2, by rw [HS.out.2.2.2, HNC.out]; rfl⟩
            case measure => simp only [intOf]; omega
    · obtain rfl : k = m := by omega
      have HAC : Hid (allGo [] T.blocks = .ok acc ∧ OwnK wr W.heap.size aA nA cA acc ∧ Below W.heap.size W wr) := by
        refine ⟨?_, ho1, hb1⟩
        rw [hg1, ← HTL.out, List.drop_length]
        rfl
      have hlen : acc.length = nA := ho1.size
      have hcv := conv_int_u64 nA (by omega)
      clear hb1 ho1 hg1 HRR
      by_cases hto : nA = cnt
      · have hbq : ((nA : Int) != (cnt : Int)) = false := by rw [hto]; simp
        have HX : Hid (allT T = .ok acc) := allT_yes HAC.out.1 (by rw [hlen, HR.out.2.2.2.2]; exact hto)
        clear hto
        go_wp2
        go_ret2
        exact ⟨HAC.out.2.2, .inr ⟨acc, aA, cA, HX.out, ret2 (by rw [hlen]; rfl) rfl, by rw [hlen]; exact HAC.out.2.1.ks⟩⟩
      · have hbq : ((nA : Int) != (cnt : Int)) = true := by rw [bne_iff_ne]; omega
        have HX : Hid (allT T = .error 121) := allT_cnt HAC.out.1 (by rw [hlen, HR.out.2.2.2.2]; exact hto)
        clear hto
        go_wp2
        go_ret2
        exact ⟨HAC.out.2.2, .inl ⟨121, HX.out, ret2 rfl rfl⟩⟩
end Go.Proofs.YtgegjcnjlibfdaaGreat
