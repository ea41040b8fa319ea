/- The contract of Crash, up to the files' cutting. -/
import Derived.Test.YtmlfbihlbiikeaaGreatDoorQa36
import Derived.Deep.DeepCutAuto
import Derived.Test.YtmlfbihlbiikeaaGreatDoorQa34
import Derived.Test.YtmlfbihlbiikeaaGreatDoorQa35
import Derived.Test.YtmlfbihlbiikeaaGreatDoorQa32
import Derived.Test.YtmlfbihlbiikeaaGreatDoorQa02
namespace Go.Proofs.YtmlfbihlbiikeaaGreatDoor
open Go.RowKit Go.Maps
theorem clone_nil (w : World) : Calls Tryz.prog 61 #[.map none] w fun e w' => e = .returned (.map none) ∧ w' = w := AnyW.maps_Clone_nil cloneL w
theorem clone_own {w : World} {m : Nat} {blk : Nat → Nat} {l : List PName} (h : NmAt w (some m) blk l) : Calls Tryz.prog 61 #[.map (some m)] w fun e w' => e = .returned (.map (some w.heap.size)) ∧ NmAt w' (some w.heap.size) blk l ∧ Below w.heap.size w w' ∧ w.heap.size < w'.heap.size := by
  refine (AnyW.maps_Clone_owns cloneL 9 ptrElem m l.length (mapOf blk l) w h).mono ?_
  rintro e w' ⟨rfl, h1, _, h3⟩
  exact ⟨rfl, h1, h3, h1.lt⟩
theorem IsAt.chg {R : Nat → Prop} {w w' : World} {a : Option Addr} {len cap : Nat} {l : List Int} (h : IsAt w a len cap l) (hc : Chg R w w') (hR : 0 < len → ∀ ad, a = some ad → ¬ R ad.block) : IsAt w' a len cap l :=
  ⟨h.size, h.le, h.max, h.bare, h.wf, fun hp => by
    obtain ⟨b, off, ha, hcell⟩ := h.here hp
    refine ⟨b, off, ha, fun j hj => ?_⟩
    have := hcell j hj
    rw [World.cell?_of_block (hc.block b (World.block_lt_of_cell? w _ this) (hR hp _ ha))]
    exact this⟩
theorem FsAt.renamed {w w' : World} {p : Nat} {S S' : PFs} {g : Gh} {mn : Option Nat} (h : FsAt w p S g) (hs : ∀ k, Inner g k → w'.heap[k]? = w.heap[k]?) (hn : NmAt w' mn g.blk S.lasts) (hap : ∀ m, mn = some m → g.ml ≠ some m) (e1 : S'.names = S.lasts) (e2 : S'.lasts = S.lasts) (e3 : S'.since = S.since) (e4 : S'.files = S.files) (hfs : FsB w' p (cellsOf S' { g with mn := mn })) : FsAt w' p S' { g with mn := mn } where
  fs := hfs
  nm := by rw [e1]; exact hn
  lm := by rw [e2]; exact NmAt.kept h.lm fun m e => hs m (.inr (.inl e))
  apart := hap
  sn := by rw [e3]; exact row_same h.sn fun b e => hs b (.inr (.inr (.inl (by rw [← g.srow_eq]; exact e))))
  files := fun k hk => by
    have : S'.fileOf k = S.fileOf k := by unfold PFs.fileOf; rw [e4]
    rw [this]
    exact (h.files k hk).kept (hs _ (.inr (.inr (.inr ⟨k, hk, .inl rfl⟩)))) fun b e => hs b (.inr (.inr (.inr ⟨k, hk, .inr e⟩)))
  inj := h.inj
  liveN := by rw [e1]; exact h.liveL
  liveL := by rw [e2]; exact h.liveL
  liveS := by rw [e3]; exact h.liveS
set_option maxRecDepth 100000 in
set_option maxHeartbeats 2000000 in
theorem crash_at {w : World} {p : Nat} {S : PFs} {g : Gh} (h : FsAt w p S g) (hI : Inv S) (a : Option Addr) (len cap : Nat) (l : List Int) (hp : IsAt w a len cap l) (hin : 0 < len → ∀ ad, a = some ad → ¬ Foot p g ad.block) : Calls Tryz.prog 26 #[at_ p, .slice a len cap] w fun e w' => e = .returned (.tuple #[]) ∧ Inv (S.crash l) ∧ ∃ g', FsAt w' p (S.crash l) g' ∧ Turn p g g' w w' := by
  have hN0 := hI.fewS
  have hpick0 : Calls Tryz.prog 60 #[.slice a len cap, .int .i64 0] w.drew fun e w' => e = .returned (.int .i64 (pickN l 0 : Nat)) ∧ w' = w.drew := pickAt_any w.drew a len cap l (hp.chg (R := fun _ => False) ((Chg.refl _ w).drew) (fun _ _ _ => id)) 0 (by omega)
  obtain ⟨P0, HP0⟩ : ∃ P0, Hid (P0 = pickN l 0) := ⟨_, rfl⟩
  rw [← HP0.out] at hpick0
  obtain ⟨N, HN⟩ : ∃ N, Hid (N = S.since.length) := ⟨_, rfl⟩
  obtain ⟨M, HM⟩ : ∃ M, Hid (M = P0 % (N + 1)) := ⟨_, rfl⟩
  have htm := tmod_nat P0 N
  rw [← HM.out] at htm
  have hMN : M ≤ S.since.length := by
    have := HM.out
    have h2 := Nat.mod_lt P0 (show 0 < N + 1 by omega)
    have := HN.out
    omega
  have hset := settle_at (h.drew) hI M hMN
  have hst : (S.since.take M).foldl changedN S.lasts = S.stays l := by rw [stays_eq, HM.out, HP0.out, HN.out]
  rw [hst] at hset
  obtain ⟨q0, q1, q2, q3, q4, q5, q6, q7, q8, q9⟩ := h.fs.cells
  simp only [cellsOf] at q9
  rw [← HN.out] at q9 hN0
  have hN1 : (N : Int) + 1 ≠ 0 := by omega
  have hN2 : ((N : Int) + 1 == 0) = false := by simpa using hN1
  have hwr : IntKind.i64.wrap ((N : Int) + 1) = (N : Int) + 1 := IntWalk.i64_in _ (by omega)
  have hrem : ∀ W, (binOp .rem 3 (.int .i64 (P0 : Int)) (.int .i64 ((N : Int) + 1))).run Tryz.prog W = .ok (.int .i64 (M : Int)) W := fun W => by
    simp [binOp, go_sem, hN1, htm]
  clear hN2
  go_enter Tryz.func26, Tryz.ntmps26
  go_upto_region 1 with fail
  go_cut [19] (fun s wc => s = .tuple #[] ∧ ∃ ml, Hid (FsAt wc p { S with lasts := S.stays l, since := [] } { g with ml := ml, sa := none, sc := 0 }) ∧ Hid (ml = g.ml ∨ (g.ml = none ∧ ∃ m, ml = some m ∧ w.heap.size ≤ m)) ∧ Hid (Chg (fun i => i = p ∨ g.ml = some i) w wc))
  case first =>
    go_region_with (first
      | (go_at_call 60; refine hpick0.mono ?_; rintro e w' ⟨rfl, rfl⟩)
      | (go_at_call 59; refine hset.mono ?_; rintro e w2 ⟨rfl, ml, h2, hl2, hc2⟩))
    all_goals
      go_wp2_with fail
      go_meet
      exact ⟨rfl, ml, h2, hl2, ⟨hc2.os, hc2.tape, hc2.output, hc2.size, hc2.block⟩⟩
  case rest =>
    obtain ⟨rfl, ml, H2, HL2, HC2⟩ := hcut
    clear hset hpick0 hrem htm hwr hN1 HM HP0 HN hMN hst hN0 q0 q1 q2 q3 q4 q5 q6 q7 q8 q9
    obtain ⟨q0, q1, q2, q3, q4, q5, q6, q7, q8, q9⟩ := H2.out.fs.cells
    simp only [cellsOf] at q8
    have s1 := Box.soft H2.out.fs 1
    have s7 := Box.soft H2.out.fs 7
    have hsz2 := HC2.out.size
    have hst := hI.stays l
    obtain ⟨T, HT⟩ : ∃ T, Hid (T = S.stays l) := ⟨_, rfl⟩
    rw [← HT.out] at H2 hst
    have hTl : T.length ≤ 1000000 := Nat.le_trans hst.2 hI.asked
    have hcl : (S.crash l) = { S with names := T, lasts := T, since := [], files := PFs.crashFiles l T 0 S.files, fused := false, fails := false } := by rw [HT.out]; rfl
    have hfin : ∀ (W : World) (mn : Option Nat) (U : Nat), FsB W p { cellsOf S g with mn := mn, ml := ml, u := (U : Int), sa := none, sl := 0, sc := 0 } → U = (S.crash l).bulk T → FsB ((((W.setCell ⟨p, 3, none⟩ (.bool false)).setCell ⟨p, 4, none⟩ (.int .i64 0)).setCell ⟨p, 5, none⟩ (.bool false)).setCell ⟨p, 6, none⟩ (.int .i64 0)) p (cellsOf (S.crash l) { g with mn := mn, ml := ml, sa := none, sc := 0 }) := by
      intro W mn U hW hU
      refine Box.eq ((((Box.set hW 3 _).set 4 _).set 5 _).set 6 _) ?_
      rw [hU]
      unfold cellsOf
      simp only [hcl]
      simp [FsC.arr]
    have hturn : ∀ (W : World) (mn : Option Nat), (∀ k, mn = some k → w.heap.size ≤ k) → Chg (Foot p g) w W → Turn p g { g with mn := mn, ml := ml, sa := none, sc := 0 } w W := fun W mn hmn hc => ⟨hc, by
      rintro k (e | e | e | e)
      · exact .inr (hmn k e)
      · have e : ml = some k := e
        rcases HL2.out with e1 | ⟨_, m3, e3, e4⟩
        · exact .inl (.inr (.inl (by rw [← e1, e])))
        · rw [e] at e3
          obtain rfl := Option.some.inj e3
          exact .inr e4
      · cases e
      · exact .inl (.inr (.inr (.inr e)))⟩
    have hC2 : Chg (Foot p g) w wc := HC2.out.wide fun k _ e => e.elim .inl (fun e => .inr (.inr (.inl e)))
    have hblt := tag_lt H2.out.tagP
    cases ml with
    | none =>
      have hT0 : T = [] := H2.out.lm
      go_wp2_with fail
      refine (clone_nil wc).mono ?_
      rintro e wd ⟨rfl, hwd⟩
      obtain rfl : wc = wd := hwd.symm
      go_wp2_with fail
      refine (rising_nil _).mono ?_
      rintro e w3 ⟨rfl, hb3⟩
      have hB3 : FsB w3 p { cellsOf S g with mn := none, ml := none, u := ((0 : Nat) : Int), sa := none, sl := 0, sc := 0 } := Box.kept (Box.eq (Box.set (Box.set H2.out.fs 7 _) 1 _) (by simp [cellsOf, FsC.arr])) (hb3.block p (by simpa using hblt))
      have t3 := Box.soft hB3 3
      have t4 := Box.soft hB3 4
      have t5 := Box.soft hB3 5
      have t6 := Box.soft hB3 6
      obtain ⟨r0, r1, r2, r3, r4, r5, r6, _⟩ := hB3.cells
      go_wp2_with fail
      refine wp_loop_rounds 1 ?_
      rw [rounds_succ]
      go_wp2
      go_returns
      have hcf : Chg (fun i => i = p) wc ((((w3.setCell ⟨p, 3, none⟩ (.bool false)).setCell ⟨p, 4, none⟩ (.int .i64 0)).setCell ⟨p, 5, none⟩ (.bool false)).setCell ⟨p, 6, none⟩ (.int .i64 0)) := by
        refine ((((Chg.andThen (((Chg.refl (fun i => i = p) wc).set (p := p) (fun _ => rfl) 7 (.map none)).set (p := p) (fun _ => rfl) 1 (.int .i64 0)) (Chg.of (R := fun _ => False) hb3) (fun _ _ e => e.elim)).set (p := p) (fun _ => rfl) _ _).set (p := p) (fun _ => rfl) _ _).set (p := p) (fun _ => rfl) _ _).set (p := p) (fun _ => rfl) _ _
      refine ⟨rfl, hI.crash l, _, FsAt.renamed (mn := none) H2.out (fun k hk => hcf.block k (H2.out.foot_lt (.inr hk)) (H2.out.inner_ne hk)) hT0 (fun _ e => by cases e) ?_ ?_ ?_ ?_ (hfin w3 none 0 hB3 (by rw [hT0]; rfl)), hturn _ none (fun _ e => by cases e) (Chg.andThen hC2 hcf (fun _ _ e => .inl e))⟩
      · rw [hcl]
      · rw [hcl]
      · rw [hcl]
      · rw [hcl, hT0]
        rfl
    | some m =>
      go_wp2_with fail
      refine (clone_own H2.out.lm).mono ?_
      rintro e w3 ⟨rfl, hn3, hb3, hs3⟩
      have hB3 : FsB w3 p _ := Box.kept H2.out.fs (hb3.block p hblt)
      have t1 := Box.soft hB3 1
      have t7 := Box.soft hB3 7
      obtain ⟨r0, r1, r2, r3, r4, r5, r6, r7, _⟩ := hB3.cells
      have hmp : wc.heap.size ≠ p := by omega
      have hnA : NmAt ((w3.setCell ⟨p, 7, none⟩ (.map (some wc.heap.size))).setCell ⟨p, 1, none⟩ (.int .i64 0)) (some wc.heap.size) g.blk T := hn3.kept fun _ e => by
        cases e
        exact (Below.heap_setCell _ _ _ _ hmp).trans (Below.heap_setCell _ _ _ _ hmp)
      have hBA : FsB ((w3.setCell ⟨p, 7, none⟩ (.map (some wc.heap.size))).setCell ⟨p, 1, none⟩ (.int .i64 0)) p { cellsOf S g with mn := some wc.heap.size, ml := some m, u := ((0 : Nat) : Int), sa := none, sl := 0, sc := 0 } := Box.eq (Box.set (Box.set hB3 7 _) 1 _) (by simp [cellsOf, FsC.arr])
      have hcA : Chg (fun i => i = p) wc ((w3.setCell ⟨p, 7, none⟩ (.map (some wc.heap.size))).setCell ⟨p, 1, none⟩ (.int .i64 0)) := ((Chg.of (R := fun i => i = p) hb3).set (p := p) (fun _ => rfl) 7 _).set (p := p) (fun _ => rfl) 1 _
      go_wp2_with fail
      refine (rising_own wc.heap.size _ (mapOf g.blk T) ptrElem _ hnA (by rw [mapOf_size]; unfold maxLen; omega) (by rw [mapOf_size]; omega)).mono ?_
      rintro e w4 ⟨v, ss, rfl, hperm, hrow, _, hb4⟩
      have hss : ss.mergeSort (fun x y => decide (x ≤ y)) = T.map (·.name) := by
        rw [mapOf_keys] at hperm
        rw [← names_sorted hnA]
        exact mergeSort_of_perm hperm
      have hslen : ss.length = (T.map (·.name)).length := by
        rw [mapOf_keys] at hperm
        exact hperm.length_eq
      rw [hss, hslen] at hrow
      obtain ⟨va, vc, rfl, hs4, hf4⟩ := ssAt_of_row hrow
      have hszA : ((w3.setCell ⟨p, 7, none⟩ (.map (some wc.heap.size))).setCell ⟨p, 1, none⟩ (.int .i64 0)).heap.size = w3.heap.size := by simp
      have hB4 : FsB w4 p { cellsOf S g with mn := some wc.heap.size, ml := some m, u := ((0 : Nat) : Int), sa := none, sl := 0, sc := 0 } := Box.kept hBA (hb4.block p (by rw [hszA]; omega))
      have hc4 : Chg (fun i => i = p) wc w4 := Chg.andThen hcA (Chg.of (R := fun _ => False) hb4) (fun _ _ e => e.elim)
      have hn4 : NmAt w4 (some wc.heap.size) g.blk T := hnA.kept fun _ e => by
        cases e
        exact hb4.block _ (by rw [hszA]; exact hs3)
      have hsz4 : wc.heap.size < w4.heap.size := by
        have := hb4.size
        rw [hszA] at this
        omega
      obtain ⟨n, HNn⟩ : ∃ n, Hid (n = T.length) := ⟨_, rfl⟩
      rw [List.length_map, ← HNn.out] at hs4
      rw [← HNn.out] at hTl
      have H40 : FsAt (gw w4 p (SKof S l T 0)) p (SKof S l T 0) (G2 g wc.heap.size m) := by
        refine FsAt.renamed (mn := some wc.heap.size) H2.out (fun k hk => (Below.heap_setCell _ _ _ _ (H2.out.inner_ne hk)).trans (hc4.block k (H2.out.foot_lt (.inr hk)) (H2.out.inner_ne hk))) (hn4.kept fun _ e => by cases e; exact Below.heap_setCell _ _ _ _ hmp) (fun m' e e2 => ?_) rfl rfl rfl rfl ?_
        · obtain rfl := Option.some.inj e
          exact absurd (tag_lt (H2.out.tagL e2)) (by omega)
        · show FsB _ p (cellsOf (SKof S l T 0) (G2 g wc.heap.size m))
          rw [cells_SK]
          exact Box.eq (Box.set hB4 1 _) (by simp [cellsOf, CK, FsC.arr])
      have hB40 : FsB w4 p (CK S g wc.heap.size m ((cutBulk l T S.files 0 : Nat) : Int)) := hB4
      have hblive : ∀ j, g.live j → (g.fl j).blk < wc.heap.size := fun j hj => tag_lt (H2.out.tagF hj)
      have hslive : ∀ (i : Nat), (i = p ∨ ∃ j, g.live j ∧ i = (g.fl j).blk) → i < wc.heap.size := fun i e => e.elim (fun e => by rw [e]; exact hblt) (fun ⟨j, hj, e⟩ => by rw [e]; exact hblive j hj)
      have hva : ∀ ad, va = some ad → wc.heap.size ≤ ad.block := fun ad e => by
        have := (hf4 ad e).1
        rw [hszA] at this
        omega
      have HFt : Hid (∀ i, Foot p { g with ml := some m, sa := none, sc := 0 } i → i = p ∨ True) := fun _ _ => .inr trivial
      have HIn : Hid (0 < len → ∀ ad, a = some ad → ¬ Foot p g ad.block) := hin
      have HP : Hid (IsAt w a len cap l) := hp
      have HS4 : Hid (SsAt w4 va n vc (T.map (·.name))) := hs4
      have HCw : Hid (Chg (Foot p g) w w4) := Chg.andThen hC2 hc4 (fun _ _ e => .inl e)
      have HN1 : Hid (Nice S.files.length T) := hst.1
      have HH2 := H2
      rw [List.length_map, ← HNn.out]
      clear hperm hrow hss hslen hnA hBA hB3 hcA hn3 r0 r1 r2 r3 r4 r5 r6 r7 t1 t7 q0 q1 q2 q3 q4 q5 q6 q7 q8 q9 s1 s7 hin hp hs4 hst hf4 HFt
      go_wp2_with fail
      go_loopw [37] (fun i wr => ∃ k : Nat, k ≤ n ∧ i = .int .i64 (k : Int) ∧ Hid (FsB wr p (CK S g wc.heap.size m ((cutBulk l T S.files k : Nat) : Int))) ∧ Hid (FsAt (gw wr p (SKof S l T k)) p (SKof S l T k) (G2 g wc.heap.size m)) ∧ Hid (Chg (fun i => i = p ∨ ∃ j, g.live j ∧ i = (g.fl j).blk) w4 wr)) (fun i _ => n - (intOf i).toNat)
      case atStart => exact ⟨0, Nat.zero_le _, rfl, hB40, H40, Chg.refl _ _⟩
      case round =>
        obtain ⟨k, hk, rfl, HB, HF, HC⟩ := hrel
        have HSs : Hid (SsAt wr va n vc (T.map (·.name))) := HS4.out.kept (R := fun i => wc.heap.size ≤ i) ⟨HC.out.os, HC.out.tape, HC.out.output, HC.out.size, fun i hi hs => HC.out.block i hs (fun e => by have := hslive i e; omega)⟩ hva
        have HCwr : Hid (Chg (Foot p g) w wr) := Chg.andThen HCw.out HC.out (fun i _ e => e.elim .inl (fun ⟨j, hj, e⟩ => .inr (.inr (.inr (.inr ⟨j, hj, .inl e⟩)))))
        obtain ⟨z0, z1, z2, z3, z4, z5, z6, z7, _⟩ := HB.out.cells
        simp only [CK] at z1 z7
        by_cases hlt : k < n
        · have hkT : k < T.length := by rw [← HNn.out]; exact hlt
          obtain ⟨x, HX⟩ : ∃ x, Hid (x = T.getD k name0') := ⟨_, rfl⟩
          have hxT : x ∈ T := by rw [HX.out]; simp [List.getD, hkT]
          obtain ⟨b, off, rfl, hcs⟩ := HSs.out.here (by omega)
          have d0 := hcs k hlt
          have ed : (T.map (·.name)).getD k [] = x.name := by
            rw [HX.out]
            simp [List.getD, hkT]
          rw [ed] at d0
          clear hcs
          have hlive : g.live x.file := HF.out.liveN x hxT
          have hNm : NmAt wr (some wc.heap.size) g.blk T := NmAt.kept (mo := some wc.heap.size) HF.out.nm fun m' e => by
            cases e
            exact (Below.heap_setCell _ _ _ _ hmp).symm
          have hlk := hNm.look HN1.out.short (strOf x.name)
          rw [show (strOf x.name).data.toList = x.name from rfl, find_of HN1.out.names hxT, ptrOf, show g.blk x.file = (g.fl x.file).blk from rfl] at hlk
          have hpb : (g.fl x.file).blk ≠ p := HF.out.inner_ne (.inr (.inr (.inr ⟨_, hlive, .inl rfl⟩)))
          have hF0 : FileAt wr (g.fl x.file) ((SKof S l T k).fileOf x.file) := (HF.out.files x.file hlive).kept (Below.heap_setCell _ _ _ _ hpb).symm fun b' e => (Below.heap_setCell _ _ _ _ (HF.out.inner_ne (.inr (.inr (.inr ⟨_, hlive, .inr e⟩))))).symm
          have hsm := Small.crash l (T.take k) 0 S.files hI.small x.file
          have hpk : Calls Tryz.prog 60 #[.slice a len cap, .int .i64 ((k : Int) + 1)] wr fun e w' => e = .returned (.int .i64 (pickN l (k + 1) : Nat)) ∧ w' = wr := pickAt_any wr a len cap l (HP.out.chg HCwr.out HIn.out) (k + 1) (by omega)
          have hct := cut_any wr (g.fl x.file) ((SKof S l T k).fileOf x.file) (pickN l (k + 1)) hF0 hsm.2 hsm.1 (pickN_le HP.out _)
          generalize strOf x.name = X at d0 hlk
          have hk1 : (0 : Int) ≤ (k : Int) := by omega
          have hk2 : (k : Int) < (n : Int) := by omega
          go_wp2_with fail
          refine hpk.mono ?_
          rintro e wd ⟨rfl, hwd⟩
          obtain rfl : wr = wd := hwd.symm
          go_wp2_with fail
          refine hct.mono ?_
          rintro e w5 ⟨rfl, h5, hc5⟩
          obtain ⟨L, HL⟩ : ∃ L, Hid (L = ((SKof S l T (k + 1)).fileOf x.file).b.length) := ⟨_, rfl⟩
          have hff := (HN1.out.good x hxT).2
          have eL : (PFs.cut ((SKof S l T k).fileOf x.file) (((SKof S l T k).fileOf x.file).last + pickN l (k + 1) % (((SKof S l T k).fileOf x.file).b.length - ((SKof S l T k).fileOf x.file).last + 1))).b.length = L := by
            have := SK_file S l T k hkT (by rw [← HX.out]; exact hff) x.file
            rw [if_pos (by rw [← HX.out])] at this
            rw [HL.out, this]
          have y0 := h5.box.cell 0
          rw [eL] at y0
          simp at y0
          have hLb : L ≤ 1048576 := by
            rw [HL.out]
            exact (Small.crash l (T.take (k + 1)) 0 S.files hI.small x.file).1
          have hB5 : FsB w5 p (CK S g wc.heap.size m ((cutBulk l T S.files k : Nat) : Int)) := Box.kept HB.out (hc5.block p (Box.lt HB.out) (fun e => hpb e.symm))
          obtain ⟨_, y1, _⟩ := hB5.cells
          have y2 := Box.soft hB5 1
          simp only [CK] at y1
          have hUb : cutBulk l T S.files k ≤ 1048576000000 := by
            have h1 := cutBulk_le (picks := l) (l := T) (k := k) hI.small
            have h2 : (T.take k).length ≤ 1000000 := by rw [List.length_take]; omega
            omega
          obtain ⟨U, HU⟩ : ∃ U, Hid (U = cutBulk l T S.files k) := ⟨_, rfl⟩
          rw [← HU.out] at y1 hUb
          clear eL
          go_wp2
          go_region
          go_wp2
          go_roundw
          case rel =>
            have hx := HX.out
            have hU := HU.out
            have hL := HL.out
            subst hx
            have := crash_step HN1.out hkT rfl HB.out HF.out h5 hc5 L hL
            rw [← hU] at this
            refine ⟨k + 1, by omega, by go_num, this.1, this.2, ?_⟩
            refine Chg.drew (Chg.set (Chg.andThen HC.out hc5 (fun i _ e => .inr ⟨_, hlive, e⟩)) (fun _ => .inl rfl) _ _)
          case measure => simp [intOf]; omega
        · have HE : Hid (k = n) := by unfold Hid; omega
          have t3 := Box.soft HB.out 3
          have t4 := Box.soft HB.out 4
          have t5 := Box.soft HB.out 5
          have t6 := Box.soft HB.out 6
          go_wp2
          go_returns
          have e := HE.out
          subst e
          have hTn : T.take k = T := by rw [HNn.out, List.take_length]
          have hcf : Chg (fun i => i = p) wr ((((wr.setCell ⟨p, 3, none⟩ (.bool false)).setCell ⟨p, 4, none⟩ (.int .i64 0)).setCell ⟨p, 5, none⟩ (.bool false)).setCell ⟨p, 6, none⟩ (.int .i64 0)) := ((((Chg.refl (fun i => i = p) wr).set (p := p) (fun _ => rfl) _ _).set (p := p) (fun _ => rfl) _ _).set (p := p) (fun _ => rfl) _ _).set (p := p) (fun _ => rfl) _ _
          refine ⟨rfl, hI.crash l, G2 g wc.heap.size m, HF.out.frame (fun i hi => ?_) (hfin wr (some wc.heap.size) (cutBulk l T S.files k) HB.out ?_) ?_ ?_ ?_ ?_, hturn _ (some wc.heap.size) (fun i e => by cases e; exact hsz2) (Chg.andThen HCwr.out hcf (fun _ _ e => .inl e))⟩
          · have hip := HF.out.inner_ne hi
            have hil := HF.out.foot_lt (.inr hi)
            rw [hcf.block i (by simpa [gw] using hil) hip]
            exact (Below.heap_setCell _ _ _ _ hip).symm
          · rw [bulk_eq, cutBulk, hTn, hcl]
            rfl
          · rw [hcl]
            rfl
          · rw [hcl]
            rfl
          · rw [hcl]
            rfl
          · rw [hcl]
            show _ = PFs.crashFiles l (T.take k) 0 S.files
            rw [hTn]
end Go.Proofs.YtmlfbihlbiikeaaGreatDoor
namespace Go.Proofs.YtmlfbihlbiikeaaGreatDoor
open Go.RowKit
structure D1 (w : World) (R : Nat → Prop) (l : Fss) (gh : Nat → Gh) : Prop where
  old : ∀ k, R k → k < w.heap.size
  here : ∀ i p S, l[i]? = some (p, S) → Inv S ∧ FsAt w p S (gh i) ∧ ∀ b, Foot p (gh i) b → ¬ R b
  apart : ∀ i j p S q T, i ≠ j → l[i]? = some (p, S) → l[j]? = some (q, T) → ∀ b, Foot p (gh i) b → ¬ Foot q (gh j) b
def D0 : Face := fun w R l _ => ∃ gh, D1 w R l gh
theorem FsAt.kept {w w' : World} {p : Nat} {S : PFs} {g : Gh} (h : FsAt w p S g) (hs : ∀ k, Foot p g k → w'.heap[k]? = w.heap[k]?) : FsAt w' p S g := h.frame (fun k hk => hs k (.inr hk)) (Box.kept h.fs (hs p (.inl rfl))) rfl rfl rfl rfl
section
variable {w w' : World} {R R' : Nat → Prop} {l : Fss} {gh : Nat → Gh} {p q i : Nat} {S S' : PFs} {g' : Gh}
theorem D1.turn (h : D1 w R l gh) (hc : Chg R w w') : D1 w' (fun k => R k ∨ (w.heap.size ≤ k ∧ k < w'.heap.size)) l gh := by
  refine ⟨fun k hk => hk.elim (fun e => Nat.lt_of_lt_of_le (h.old k e) hc.size) (fun e => e.2), fun i p S e => ?_, h.apart⟩
  obtain ⟨hI, hf, hR⟩ := h.here i p S e
  refine ⟨hI, hf.kept fun k hk => hc.block k (hf.foot_lt hk) (hR k hk), fun b hb => ?_⟩
  rintro (e | e)
  · exact hR b hb e
  · have := hf.foot_lt hb
    omega
theorem D1.less (h : D1 w R l gh) (hR : ∀ k, R' k → R k) : D1 w R' l gh :=
  ⟨fun k hk => h.old k (hR k hk), fun i p S e => ⟨(h.here i p S e).1, (h.here i p S e).2.1, fun b hb e' => (h.here i p S e).2.2 b hb (hR b e')⟩, h.apart⟩
theorem D1.below (h : D1 w R l gh) (hb : Below w.heap.size w w') (hR : ∀ k, R' k → R k ∨ (w.heap.size ≤ k ∧ k < w'.heap.size)) : D1 w' R' l gh := (h.turn (Chg.of hb)).less hR
theorem kp_of (hb : Below w.heap.size w w') : Kp R w w' := ⟨hb.os, hb.tape, hb.output, hb.size, fun k _ hk => hb.block k hk⟩
theorem set_at {x y : Nat × PFs} {j : Nat} (h : (l.set i x)[j]? = some y) : (j = i ∧ y = x) ∨ (j ≠ i ∧ l[j]? = some y) := by
  by_cases e : i = j
  · subst e
    left
    rw [List.getElem?_set] at h
    simp only [↓reduceIte] at h
    split at h
    · exact ⟨rfl, (Option.some.inj h).symm⟩
    · cases h
  · right
    rw [List.getElem?_set, if_neg e] at h
    exact ⟨Ne.symm e, h⟩
theorem push_at {x y : Nat × PFs} {j : Nat} (h : (l ++ [x])[j]? = some y) : (j = l.length ∧ y = x) ∨ (j ≠ l.length ∧ l[j]? = some y) := by
  by_cases e : j < l.length
  · rw [List.getElem?_append_left e] at h
    exact .inr ⟨by omega, h⟩
  · rw [List.getElem?_append_right (by omega)] at h
    by_cases e2 : j = l.length
    · subst e2
      simp at h
      exact .inl ⟨rfl, h.symm⟩
    · have h3 : (1 : Nat) ≤ j - l.length := by omega
      rw [List.getElem?_eq_none (by simpa using h3)] at h
      cases h
theorem D1.set {r : Fss} (h : D1 w R l gh) (hi : l[i]? = some (p, S)) (hI : Inv S') (hf : FsAt w' p S' g') (ht : Turn p (gh i) g' w w') : D0 w' R (l.set i (p, S')) r ∧ Kp R w w' := by
  obtain ⟨_, hf0, hR0⟩ := h.here i p S hi
  have hfoot : ∀ b, Foot p g' b → Foot p (gh i) b ∨ w.heap.size ≤ b := fun b hb => hb.elim (fun e => .inl (.inl e)) (fun e => (ht.foot b e).imp .inr id)
  refine ⟨⟨fun j => if j = i then g' else gh j, fun k hk => Nat.lt_of_lt_of_le (h.old k hk) ht.chg.size, fun j q T e => ?_, fun j k q T u V hjk ej ek b hb hb' => ?_⟩, ht.chg.os, ht.chg.tape, ht.chg.output, ht.chg.size, fun k hk hlt => ht.chg.block k hlt (fun e => hR0 k e hk)⟩
  · rcases set_at e with ⟨rfl, e2⟩ | ⟨hj, e2⟩
    · obtain ⟨rfl, rfl⟩ := Prod.mk.inj e2
      simp only [↓reduceIte]
      refine ⟨hI, hf, fun b hb hRb => ?_⟩
      rcases hfoot b hb with e | e
      · exact hR0 b e hRb
      · have := h.old b hRb
        omega
    · simp only [if_neg hj]
      obtain ⟨a1, a2, a3⟩ := h.here j q T e2
      exact ⟨a1, a2.kept fun k hk => ht.chg.block k (a2.foot_lt hk) (fun e => h.apart j i q T p S hj e2 hi k hk e), a3⟩
  · rcases set_at ej with ⟨rfl, e2⟩ | ⟨hj, e2⟩
    · obtain ⟨rfl, rfl⟩ := Prod.mk.inj e2
      rcases set_at ek with ⟨rfl, _⟩ | ⟨hk, e3⟩
      · exact hjk rfl
      · simp only [↓reduceIte] at hb
        simp only [if_neg hk] at hb'
        rcases hfoot b hb with e | e
        · exact h.apart j k _ _ _ _ hjk hi e3 b e hb'
        · have := (h.here k _ _ e3).2.1.foot_lt hb'
          omega
    · simp only [if_neg hj] at hb
      rcases set_at ek with ⟨rfl, e3⟩ | ⟨hk, e3⟩
      · obtain ⟨rfl, rfl⟩ := Prod.mk.inj e3
        simp only [↓reduceIte] at hb'
        rcases hfoot b hb' with e | e
        · exact h.apart j k _ _ _ _ hjk e2 hi b hb e
        · have := (h.here j _ _ e2).2.1.foot_lt hb
          omega
      · simp only [if_neg hk] at hb'
        exact h.apart j k _ _ _ _ hjk e2 e3 b hb hb'
theorem D1.push {r : Fss} (h : D1 w R l gh) (hI : Inv S) (hf : FsAt w' q S g') (hnew : ∀ b, Foot q g' b → w.heap.size ≤ b) (hb : Below w.heap.size w w') : D0 w' R (l ++ [(q, S)]) r ∧ Kp R w w' := by
  refine ⟨⟨fun j => if j = l.length then g' else gh j, fun k hk => Nat.lt_of_lt_of_le (h.old k hk) hb.size, fun j q T e => ?_, fun j k q T u V hjk ej ek b hb1 hb' => ?_⟩, kp_of hb⟩
  · rcases push_at e with ⟨rfl, e2⟩ | ⟨hj, e2⟩
    · obtain ⟨rfl, rfl⟩ := Prod.mk.inj e2
      simp only [↓reduceIte]
      refine ⟨hI, hf, fun b hb hRb => ?_⟩
      have := h.old b hRb
      have := hnew b hb
      omega
    · simp only [if_neg hj]
      obtain ⟨a1, a2, a3⟩ := h.here j q T e2
      exact ⟨a1, a2.below hb, a3⟩
  · rcases push_at ej with ⟨rfl, e2⟩ | ⟨hj, e2⟩
    · obtain ⟨rfl, rfl⟩ := Prod.mk.inj e2
      rcases push_at ek with ⟨rfl, _⟩ | ⟨hk, e3⟩
      · exact hjk rfl
      · simp only [↓reduceIte] at hb1
        simp only [if_neg hk] at hb'
        have := (h.here k _ _ e3).2.1.foot_lt hb'
        have := hnew b hb1
        omega
    · simp only [if_neg hj] at hb1
      rcases push_at ek with ⟨rfl, e3⟩ | ⟨hk, e3⟩
      · obtain ⟨rfl, rfl⟩ := Prod.mk.inj e3
        simp only [↓reduceIte] at hb'
        have := (h.here j _ _ e2).2.1.foot_lt hb1
        have := hnew b hb'
        omega
      · simp only [if_neg hk] at hb'
        exact h.apart j k _ _ _ _ hjk e2 e3 b hb1 hb'
end
theorem gh0_inner {k : Nat} (h : Inner gh0 k) : False := by
  rcases h with e | e | e | ⟨j, hj, _⟩
  · cases e
  · cases e
  · cases e
  · exact hj.elim
theorem fsOk : FsOk D0 where
  zero := fun w => ⟨fun _ => gh0, fun _ hk => hk, fun i p S e => by simp at e, fun i j p S q T _ e => by simp at e⟩
  turn := fun ⟨gh, h⟩ hc => ⟨gh, h.turn hc⟩
  less := fun ⟨gh, h⟩ hR => ⟨gh, h.less hR⟩
  new := fun {w R l r} q hq ⟨gh, h⟩ => by
    refine (new_at w q).mono ?_
    rintro e w' (⟨h1, rfl, h2, h3, h4⟩ | ⟨h1, rfl, rfl⟩)
    · exact .inl ⟨h1, _, rfl, h.push (Inv.new (by omega)) h2 (fun b hb => hb.elim (fun e => Nat.le_of_eq e.symm) (fun e => (gh0_inner e).elim)) h3⟩
    · exact .inr ⟨h1, rfl, ⟨gh, h⟩, kp_of (Below.refl _ _)⟩
  create := fun i name ⟨gh, h⟩ hi ha => by
    obtain ⟨hI, hf, hR⟩ := h.here i _ _ hi
    refine (create_at hf hI ha name).mono ?_
    rintro e w' ⟨rfl, hI', g', hf', ht⟩
    exact ⟨rfl, h.set hi hI' hf' ht⟩
  append := fun i name a len cap bs ⟨gh, h⟩ hi ha hbs hlen => by
    obtain ⟨hI, hf, hR⟩ := h.here i _ _ hi
    refine (append_at hf hI ha name a len cap bs hbs hlen).mono ?_
    rintro e w' ⟨rfl, hI', g', hf', ht⟩
    exact ⟨rfl, h.set hi hI' hf' ht⟩
  sync := fun i name ⟨gh, h⟩ hi ha => by
    obtain ⟨hI, hf, hR⟩ := h.here i _ _ hi
    refine (sync_at hf hI ha name).mono ?_
    rintro e w' ⟨rfl, hI', g', hf', ht⟩
    exact ⟨rfl, h.set hi hI' hf' ht⟩
  rename := fun i a b ⟨gh, h⟩ hi ha => by
    obtain ⟨hI, hf, hR⟩ := h.here i _ _ hi
    refine (renames_at hf hI ha a b).mono ?_
    rintro e w' ⟨rfl, hI', g', hf', ht⟩
    exact ⟨rfl, h.set hi hI' hf' ht⟩
  remove := fun i name ⟨gh, h⟩ hi ha => by
    obtain ⟨hI, hf, hR⟩ := h.here i _ _ hi
    refine (remove_at hf hI ha name).mono ?_
    rintro e w' ⟨rfl, hI', g', hf', ht⟩
    exact ⟨rfl, h.set hi hI' hf' ht⟩
  syncDir := fun i ⟨gh, h⟩ hi ha => by
    obtain ⟨hI, hf, hR⟩ := h.here i _ _ hi
    refine (syncDir_at hf hI ha).mono ?_
    rintro e w' ⟨rfl, hI', g', hf', ht⟩
    exact ⟨rfl, h.set hi hI' hf' ht⟩
  read := fun {w R l r p S} i name ⟨gh, h⟩ hi => by
    obtain ⟨hI, hf, hR⟩ := h.here i _ _ hi
    refine (read_at hf hI name).mono ?_
    rintro e w' ⟨a, c, rfl, ho, hb⟩
    refine ⟨a, c, rfl, ho, ⟨gh, h.below hb fun k hk => hk.imp id fun e => ?_⟩, kp_of hb⟩
    refine ⟨?_, tag_lt (row_tag ho.row e)⟩
    rcases ho.row.2 with ⟨hv, _⟩ | ⟨g, cp, cur, hv, hB, _⟩
    · rw [hv] at e
      cases e
    · rw [hv] at e
      obtain rfl := Option.some.inj (show some g = some k from e)
      exact hB
  fuse := fun i n hn ⟨gh, h⟩ hi => by
    obtain ⟨hI, hf, hR⟩ := h.here i _ _ hi
    refine (fuse_at hf hI n hn).mono ?_
    rintro e w' ⟨rfl, hI', hf', ht⟩
    exact ⟨rfl, h.set hi hI' hf' ht⟩
  fail := fun i n hn ⟨gh, h⟩ hi => by
    obtain ⟨hI, hf, hR⟩ := h.here i _ _ hi
    refine (fail_at hf hI n hn).mono ?_
    rintro e w' ⟨rfl, hI', hf', ht⟩
    exact ⟨rfl, h.set hi hI' hf' ht⟩
  crash := fun i a len cap picks ⟨gh, h⟩ hi hp hin => by
    obtain ⟨hI, hf, hR⟩ := h.here i _ _ hi
    refine (crash_at hf hI a len cap picks hp (fun h0 ad e hb => hR _ hb (hin h0 ad e))).mono ?_
    rintro e w' ⟨rfl, hI', g', hf', ht⟩
    exact ⟨rfl, h.set hi hI' hf' ht⟩
end Go.Proofs.YtmlfbihlbiikeaaGreatDoor
