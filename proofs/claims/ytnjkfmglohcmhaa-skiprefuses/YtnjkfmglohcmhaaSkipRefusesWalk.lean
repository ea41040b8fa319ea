/- SkipRefuses: the walk. -/
import Derived.Test.YtnjkfmglohcmhaaS7L
import Derived.Test.YtnjkfmglohcmhaaS7Idx
import Derived.Deep.DeepCutAuto
import Derived.Deep.RegionHeld3
namespace Go.Proofs.Ytnjkfmglohcmhaa
open Go.RowKit
set_option linter.unusedVariables false
theorem Chg.heap' {R : Nat → Prop} {w w1 w' : World} (h : Chg R w1 w') (hh : w1.heap = w.heap) (ho : w1.os = w.os) (ht : w1.tape = w.tape) (hp : w1.output = w.output) : Chg R w w' := h.heap hh ho ht hp
set_option maxRecDepth 100000 in
set_option maxHeartbeats 8000000 in
theorem skipRefuses_walk (a0 : Int) (a1 : Option Addr) (len1 cap1 : Nat) (b1 : List PutV) (a2 : Int) (w : World) (w0 : (Lit.int .i64 a0).wf = true) (w1 : PsAt w a1 len1 cap1 b1) (w2 : (Lit.int .i64 a2).wf = true) :
    Calls Try.prog 7 #[.int .i64 a0, .slice a1 len1 cap1, .int .i64 a2] w fun e w' => e = .returned (.bool true) ∧ Below w.heap.size w w' := by
  have HP : Hid (PsAt w a1 len1 cap1 b1) := w1
  have hmax1 := w1.max
  have hle1 := w1.le
  unfold maxLen at hmax1
  clear w0 w1 w2
  go_enter Try.func7, Try.ntmps7
  go_wp2_with fail
  refine (awake_any _).mono ?_
  rintro _ v1 ⟨rfl, hb1⟩
  have HB1 : Hid (Below w.heap.size w v1) := hb1
  clear hb1
  by_cases hbad : a0 < 0 ∨ 1000 < a0
  · have HNB := new_bad a0 v1 hbad
    rcases hbad with hbad | hbad
    · go_wp2_with fail
      refine HNB.mono ?_
      rintro _ _ ⟨rfl, hw⟩
      obtain rfl := hw.symm
      clear hw
      go_wp2
      go_returns
      exact ⟨rfl, HB1.out⟩
    · have h0 : ¬ a0 < 0 := by omega
      go_wp2_with fail
      refine HNB.mono ?_
      rintro _ _ ⟨rfl, hw⟩
      obtain rfl := hw.symm
      clear hw
      go_wp2
      go_returns
      exact ⟨rfl, HB1.out⟩
  · obtain ⟨r, rfl⟩ : ∃ r : Nat, a0 = (r : Int) := ⟨a0.toNat, by omega⟩
    have hr : r ≤ 1000 := by omega
    clear hbad
    go_wp2_with fail
    refine (new_at r v1 hr).mono ?_
    rintro _ v2 ⟨p, g, rfl, h1, bb1, f1⟩
    have H1 : Hid (Own7 w v2 p (PS.new r) g) := ⟨h1, HB1.out.trans (bb1.mono HB1.out.size), fun k hk => Nat.le_trans HB1.out.size (f1 k hk)⟩
    clear h1 bb1 f1 HB1
    go_wp2_with fail
    go_loopw [10, 11] (fun x y wr => ∃ (k : Nat) (ka : Option Addr) (kc : Nat) (S : PS) (g1 : SG), k ≤ len1 ∧ k ≤ 40 ∧ x = .slice ka S.ops.length kc ∧ y = .int .i64 (k : Int) ∧ Hid (Own7 w wr p S g1 ∧ OwnS wr w.heap.size ka S.ops.length kc S.keys ∧ S.room = r ∧ ∀ l, S.lev l = [])) (fun _ y _ => len1 - (intOf y).toNat)
    case atStart => exact ⟨0, none, 0, PS.new r, g, Nat.zero_le _, by omega, rfl, rfl, H1.out, OwnS.nil _ _, rfl, fun _ => rfl⟩
    case round =>
      obtain ⟨k, ka, kc, S, g1, hk1, hk2, rfl, rfl, HR⟩ := hrel
      clear H1
      have hnS : S.ops.length ≤ 1000 := by have := HR.out.1.at'.inv.size; have := HR.out.1.at'.inv.room; omega
      go_upto_region 11 with fail
      go_cut [51] (fun t wz => t = .bool (decide (k < len1 ∧ k < 40)) ∧ wz = wr)
      case first =>
        by_cases hc1 : k < len1
        · go_wp2_with fail
          go_meet
          exact ⟨congrArg Value.bool (decide_eq_decide.2 (by omega)), rfl⟩
        · go_wp2_with fail
          go_meet
          exact ⟨congrArg Value.bool (decide_eq_false (by omega)).symm, rfl⟩
      case rest =>
        obtain ⟨rfl, rfl⟩ := hcut
        by_cases hlt : k < len1 ∧ k < 40
        · rw [decide_eq_true hlt]
          obtain ⟨hc1, hc2⟩ := hlt
          obtain ⟨b, off, hpa, hcell⟩ := HP.out.here (by omega)
          obtain ⟨hk3, hk4⟩ := hcell k hc1
          obtain ⟨okh, oks⟩ := HP.out.ok k hc1
          generalize b1.getD k put0 = o at hk3 hk4 okh oks
          obtain ⟨key, ht⟩ := o
          simp only at hk3 hk4 okh oks
          have HPC : Hid (∀ v, Below w.heap.size w v → v.cell? ⟨b, off + k * 2, none⟩ = some (.string key) ∧ v.cell? ⟨b, off + k * 2 + 1, none⟩ = some (.int .i64 ht)) := fun v hv => by
            rw [hv.cell (World.block_lt_of_cell? w _ hk3), hv.cell (World.block_lt_of_cell? w _ hk4)]
            exact ⟨hk3, hk4⟩
          obtain ⟨ck, ch⟩ := HPC.out wc HR.out.1.base
          unfold in64 at okh
          obtain ⟨okl, oku⟩ := okh
          have hidx := fun w' => idx_put w' (c := cap1) hpa hc1
          clear hcell hk3 hk4 hpa
          by_cases hA1 : ht < 1
          · have HBG : Hid (∀ v : World, v.heap = wc.heap → v.os = wc.os → v.tape = wc.tape → v.output = wc.output → Calls Try.prog 22 #[at_ p, .string key, .int .i64 ht] v fun e w' => e = .returned (.tuple #[.int .i64 0, .int .i64 70]) ∧ ∃ g3, SkAt w' p S g3 ∧ Chg (Foot p g1) wc w' ∧ ∀ k, Foot p g3 k → Foot p g1 k ∨ wc.heap.size ≤ k) := fun v e1 e2 e3 e4 => by
              have hv : SkAt v p S g1 := HR.out.1.at'.keep fun k _ => by rw [e1]
              refine (begin_high ht (by omega)).mono ?_
              rintro _ w' ⟨rfl, rfl⟩
              exact ⟨rfl, g1, hv, (Chg.refl _ _).heap e1 e2 e3 e4, fun k hk => .inl hk⟩
            go_wp2_with fail
            go_region_held3 (fun w' => w'.cell? ⟨b, off + k * 2, none⟩ = some (.string key) ∧ w'.cell? ⟨b, off + k * 2 + 1, none⟩ = some (.int .i64 ht)) (first | exact ⟨ck, ch⟩ | go_keep)
              (first
               | (go_at_call 22; refine (HBG.out _ (by rfl) (by rfl) (by rfl) (by rfl)).mono ?_; rintro _ w1 ⟨rfl, g3, h1, c1, f1⟩
                  have HW1 : Hid (Own7 w w1 p S g3 ∧ OwnS w1 w.heap.size ka S.ops.length kc S.keys) := ⟨HR.out.1.chg h1 c1 f1, HR.out.2.1.chg c1 (fun k hk => HR.out.2.1.off HR.out.1.at' hk)⟩
                  have hcs := HPC.out w1 HW1.out.1.base
                  have ck := hcs.1
                  have ch := hcs.2
                  clear h1 c1 f1 hcs))
            all_goals
              have HHAS := has_at HW1.out.2.st key
              go_wp2_with fail
              refine HHAS.mono ?_
              rintro _ _ ⟨rfl, hw⟩
              obtain rfl := hw.symm
              clear hw HHAS
              go_wp2
              exact ⟨⟨k + 1, ka, kc, S, g3, by omega, by omega, rfl, by go_num, ⟨HW1.out.1, HW1.out.2, HR.out.2.2⟩⟩, by simp only [intOf]; omega⟩
          · by_cases hA2 : 8 < ht
            · have HBG : Hid (∀ v : World, v.heap = wc.heap → v.os = wc.os → v.tape = wc.tape → v.output = wc.output → Calls Try.prog 22 #[at_ p, .string key, .int .i64 ht] v fun e w' => e = .returned (.tuple #[.int .i64 0, .int .i64 70]) ∧ ∃ g3, SkAt w' p S g3 ∧ Chg (Foot p g1) wc w' ∧ ∀ k, Foot p g3 k → Foot p g1 k ∨ wc.heap.size ≤ k) := fun v e1 e2 e3 e4 => by
                have hv : SkAt v p S g1 := HR.out.1.at'.keep fun k _ => by rw [e1]
                refine (begin_high ht (by omega)).mono ?_
                rintro _ w' ⟨rfl, rfl⟩
                exact ⟨rfl, g1, hv, (Chg.refl _ _).heap e1 e2 e3 e4, fun k hk => .inl hk⟩
              go_wp2_with fail
              go_region_held3 (fun w' => w'.cell? ⟨b, off + k * 2, none⟩ = some (.string key) ∧ w'.cell? ⟨b, off + k * 2 + 1, none⟩ = some (.int .i64 ht)) (first | exact ⟨ck, ch⟩ | go_keep)
                (first
                 | (go_at_call 22; refine (HBG.out _ (by rfl) (by rfl) (by rfl) (by rfl)).mono ?_; rintro _ w1 ⟨rfl, g3, h1, c1, f1⟩
                    have HW1 : Hid (Own7 w w1 p S g3 ∧ OwnS w1 w.heap.size ka S.ops.length kc S.keys) := ⟨HR.out.1.chg h1 c1 f1, HR.out.2.1.chg c1 (fun k hk => HR.out.2.1.off HR.out.1.at' hk)⟩
                    have hcs := HPC.out w1 HW1.out.1.base
                    have ck := hcs.1
                    have ch := hcs.2
                    clear h1 c1 f1 hcs))
              all_goals
                have HHAS := has_at HW1.out.2.st key
                go_wp2_with fail
                refine HHAS.mono ?_
                rintro _ _ ⟨rfl, hw⟩
                obtain rfl := hw.symm
                clear hw HHAS
                go_wp2
                exact ⟨⟨k + 1, ka, kc, S, g3, by omega, by omega, rfl, by go_num, ⟨HW1.out.1, HW1.out.2, HR.out.2.2⟩⟩, by simp only [intOf]; omega⟩
            · cases hb : hasB S.keys key with
              | true =>
                have HBG : Hid (∀ v : World, v.heap = wc.heap → v.os = wc.os → v.tape = wc.tape → v.output = wc.output → Calls Try.prog 22 #[at_ p, .string key, .int .i64 ht] v fun e w' => e = .returned (.tuple #[.int .i64 0, .int .i64 71]) ∧ ∃ g3, SkAt w' p S g3 ∧ Chg (Foot p g1) wc w' ∧ ∀ k, Foot p g3 k → Foot p g1 k ∨ wc.heap.size ≤ k) := fun v e1 e2 e3 e4 => by
                  have hv : SkAt v p S g1 := HR.out.1.at'.keep fun k _ => by rw [e1]
                  refine (begin_same hv oks ht (by omega) (hasB_true.1 hb)).mono ?_
                  rintro _ w' ⟨rfl, h1, b1⟩
                  exact ⟨rfl, g1, h1, (Chg.of b1).heap e1 e2 e3 e4, fun k hk => .inl hk⟩
                have HHB : Hid (hasB S.keys key = true) := hb
                clear hb
                go_wp2_with fail
                go_region_held3 (fun w' => w'.cell? ⟨b, off + k * 2, none⟩ = some (.string key) ∧ w'.cell? ⟨b, off + k * 2 + 1, none⟩ = some (.int .i64 ht)) (first | exact ⟨ck, ch⟩ | go_keep)
                  (first
                   | (go_at_call 22; refine (HBG.out _ (by rfl) (by rfl) (by rfl) (by rfl)).mono ?_; rintro _ w1 ⟨rfl, g3, h1, c1, f1⟩
                      have HW1 : Hid (Own7 w w1 p S g3 ∧ OwnS w1 w.heap.size ka S.ops.length kc S.keys) := ⟨HR.out.1.chg h1 c1 f1, HR.out.2.1.chg c1 (fun k hk => HR.out.2.1.off HR.out.1.at' hk)⟩
                      have hcs := HPC.out w1 HW1.out.1.base
                      have ck := hcs.1
                      have ch := hcs.2
                      clear h1 c1 f1 hcs))
                all_goals
                  have HHAS := has_at HW1.out.2.st key
                  rw [HHB.out] at HHAS
                  go_wp2_with fail
                  refine HHAS.mono ?_
                  rintro _ _ ⟨rfl, hw⟩
                  obtain rfl := hw.symm
                  clear hw HHAS
                  go_wp2
                  exact ⟨⟨k + 1, ka, kc, S, g3, by omega, by omega, rfl, by go_num, ⟨HW1.out.1, HW1.out.2, HR.out.2.2⟩⟩, by simp only [intOf]; omega⟩
              | false =>
                by_cases hfl : S.ops.length < r
                · obtain ⟨h, rfl⟩ : ∃ h : Nat, ht = (h : Int) := ⟨ht.toNat, by omega⟩
                  have HBG : Hid (∀ v : World, v.heap = wc.heap → v.os = wc.os → v.tape = wc.tape → v.output = wc.output → Calls Try.prog 22 #[at_ p, .string key, .int .i64 (h : Int)] v fun e w' => e = .returned (.tuple #[.int .i64 (S.ops.length : Int), .int .i64 0]) ∧ ∃ g3, SkAt w' p (S.begin key h) g3 ∧ Chg (Foot p g1) wc w' ∧ ∀ k, Foot p g3 k → Foot p g1 k ∨ wc.heap.size ≤ k) := fun v e1 e2 e3 e4 => by
                    have hv : SkAt v p S g1 := HR.out.1.at'.keep fun k _ => by rw [e1]
                    refine (begin_new hv oks (by omega) (hasB_false.1 hb) (by rw [HR.out.2.2.1]; exact hfl)).mono ?_
                    rintro _ w' ⟨rfl, g3, h1, c1, f1⟩
                    exact ⟨rfl, g3, h1, c1.heap e1 e2 e3 e4, fun k hk => by rw [← e1]; exact f1 k hk⟩
                  have HHB : Hid (hasB S.keys key = false) := hb
                  clear hb
                  go_wp2_with fail
                  go_region_held3 (fun w' => w'.cell? ⟨b, off + k * 2, none⟩ = some (.string key) ∧ w'.cell? ⟨b, off + k * 2 + 1, none⟩ = some (.int .i64 (h : Int))) (first | exact ⟨ck, ch⟩ | go_keep)
                    (first
                     | (go_at_call 22; refine (HBG.out _ (by rfl) (by rfl) (by rfl) (by rfl)).mono ?_; rintro _ w1 ⟨rfl, g3, h1, c1, f1⟩
                        have HW1 : Hid (Own7 w w1 p (S.begin key h) g3 ∧ OwnS w1 w.heap.size ka S.ops.length kc S.keys) := ⟨HR.out.1.chg h1 c1 f1, HR.out.2.1.chg c1 (fun k hk => HR.out.2.1.off HR.out.1.at' hk)⟩
                        have hcs := HPC.out w1 HW1.out.1.base
                        have ck := hcs.1
                        have ch := hcs.2
                        clear h1 c1 f1 hcs))
                  all_goals
                    have HHAS := has_at HW1.out.2.st key
                    rw [HHB.out] at HHAS
                    go_wp2_with fail
                    refine HHAS.mono ?_
                    rintro _ _ ⟨rfl, hw⟩
                    obtain rfl := hw.symm
                    clear hw HHAS
                    have hw1s : w.heap.size ≤ w1.heap.size := HW1.out.1.base.size
                    go_wp2_with (first | (at_builtin; refine wpList_pushS w1 rfl _ _ rfl w.heap.size ka S.ops.length kc _ rfl HW1.out.2 key rfl (by omega) hw1s ?_; intro r2 c2 w2 hr2 hg2
                                          have HW2 : Hid (Own7 w w2 p (S.begin key h) g3 ∧ OwnS w2 w.heap.size (some ⟨r2, 0, none⟩) (S.begin key h).ops.length c2 (S.begin key h).keys ∧ (S.begin key h).room = r ∧ ∀ l, (S.begin key h).lev l = []) := ⟨⟨HW1.out.1.at'.grown hg2 (fun k hk => HW1.out.2.off HW1.out.1.at' hk), (HW1.out.1.base.alloc HW1.out.1.base.size _).grown hg2 (by simp; have := HW1.out.1.base.size; omega) (fun k e => HW1.out.2.ge e), HW1.out.1.mine⟩, by rw [PS.begin_len, PS.begin_keys]; exact hr2, HR.out.2.2⟩
                                          have HL2 : Hid ((S.begin key h).ops.length = S.ops.length + 1) := PS.begin_len
                                          clear hr2 hg2))
                    exact ⟨⟨k + 1, some ⟨r2, 0, none⟩, c2, S.begin key h, g3, by omega, by omega, by rw [HL2.out], by go_num, HW2⟩, by simp only [intOf]; omega⟩
                · have HBG : Hid (∀ v : World, v.heap = wc.heap → v.os = wc.os → v.tape = wc.tape → v.output = wc.output → Calls Try.prog 22 #[at_ p, .string key, .int .i64 ht] v fun e w' => e = .returned (.tuple #[.int .i64 0, .int .i64 72]) ∧ ∃ g3, SkAt w' p S g3 ∧ Chg (Foot p g1) wc w' ∧ ∀ k, Foot p g3 k → Foot p g1 k ∨ wc.heap.size ≤ k) := fun v e1 e2 e3 e4 => by
                    have hv : SkAt v p S g1 := HR.out.1.at'.keep fun k _ => by rw [e1]
                    refine (begin_full hv oks ht (by omega) (hasB_false.1 hb) (by rw [HR.out.2.2.1]; exact hfl)).mono ?_
                    rintro _ w' ⟨rfl, h1, b1⟩
                    exact ⟨rfl, g1, h1, (Chg.of b1).heap e1 e2 e3 e4, fun k hk => .inl hk⟩
                  have HHB : Hid (hasB S.keys key = false) := hb
                  clear hb
                  go_wp2_with fail
                  go_region_held3 (fun w' => w'.cell? ⟨b, off + k * 2, none⟩ = some (.string key) ∧ w'.cell? ⟨b, off + k * 2 + 1, none⟩ = some (.int .i64 ht)) (first | exact ⟨ck, ch⟩ | go_keep)
                    (first
                     | (go_at_call 22; refine (HBG.out _ (by rfl) (by rfl) (by rfl) (by rfl)).mono ?_; rintro _ w1 ⟨rfl, g3, h1, c1, f1⟩
                        have HW1 : Hid (Own7 w w1 p S g3 ∧ OwnS w1 w.heap.size ka S.ops.length kc S.keys) := ⟨HR.out.1.chg h1 c1 f1, HR.out.2.1.chg c1 (fun k hk => HR.out.2.1.off HR.out.1.at' hk)⟩
                        have hcs := HPC.out w1 HW1.out.1.base
                        have ck := hcs.1
                        have ch := hcs.2
                        clear h1 c1 f1 hcs))
                  all_goals
                    have HHAS := has_at HW1.out.2.st key
                    rw [HHB.out] at HHAS
                    go_wp2_with fail
                    refine HHAS.mono ?_
                    rintro _ _ ⟨rfl, hw⟩
                    obtain rfl := hw.symm
                    clear hw HHAS
                    go_wp2
                    exact ⟨⟨k + 1, ka, kc, S, g3, by omega, by omega, rfl, by go_num, ⟨HW1.out.1, HW1.out.2, HR.out.2.2⟩⟩, by simp only [intOf]; omega⟩
        · rw [decide_eq_false hlt]
          clear hlt
          have HK := keys_at HR.out.1.at' (l := 0) (by omega)
          rw [HR.out.2.2.2 0] at HK
          rename World => x9
          by_cases ho1 : a2 < 0
          · have HST := step_out HR.out.1.at' a2 (.inl ho1)
            go_wp2_with fail
            refine HST.mono ?_
            rintro _ _ ⟨rfl, hw⟩
            obtain rfl := hw.symm
            clear hw
            go_wp2_with fail
            refine HK.mono ?_
            rintro _ v5 ⟨a5, c5, rfl, _, b5⟩
            have H5 : Hid (Below w.heap.size w v5) := (HR.out.1.below b5).base
            clear b5
            go_wp2
            go_returns
            exact ⟨rfl, H5.out⟩
          · by_cases ho2 : (S.ops.length : Int) ≤ a2
            · have HST := step_out HR.out.1.at' a2 (.inr ho2)
              go_wp2_with fail
              refine HST.mono ?_
              rintro _ _ ⟨rfl, hw⟩
              obtain rfl := hw.symm
              clear hw
              go_wp2_with fail
              refine HK.mono ?_
              rintro _ v5 ⟨a5, c5, rfl, _, b5⟩
              have H5 : Hid (Below w.heap.size w v5) := (HR.out.1.below b5).base
              clear b5
              go_wp2
              go_returns
              exact ⟨rfl, H5.out⟩
            · go_wp2_with fail
              refine HK.mono ?_
              rintro _ v5 ⟨a5, c5, rfl, _, b5⟩
              have H5 : Hid (Below w.heap.size w v5) := (HR.out.1.below b5).base
              clear b5
              go_wp2_with fail
              refine (keys_none (some ⟨p, 0, none⟩) (-1) _ (by omega)).mono ?_
              rintro _ _ ⟨rfl, hw⟩
              obtain rfl := hw.symm
              clear hw
              go_wp2
              go_returns
              exact ⟨rfl, H5.out⟩
end Go.Proofs.Ytnjkfmglohcmhaa
