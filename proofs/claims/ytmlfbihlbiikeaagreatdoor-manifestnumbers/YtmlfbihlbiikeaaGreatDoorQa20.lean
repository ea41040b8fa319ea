/- The contract of manifest's learned: a state behind one record more. -/
import Derived.Test.YtmlfbihlbiikeaaGreatDoorQa11
import Derived.Test.YtmlfbihlbiikeaaGreatDoorQa41
import Derived.Test.YtmlfbihlbiikeaaGreatDoorQa18
import Derived.Test.YtmlfbihlbiikeaaGreatDoorQa19
import Derived.Test.YtmlfbihlbiikeaaGreatDoorQa22
import Derived.Deep.RegionHeld3
import Derived.Deep.DeepCutAuto
namespace Go.Proofs.YtmlfbihlbiikeaaGreatDoor
open Go.RowKit
set_option linter.unusedVariables false
set_option linter.unusedSimpArgs false
def zS : PSt := ⟨0, noV, 0, 0, 0⟩
def learnP (s : PSt) (b : List UInt8) : Option PSt := (decE b).bind (stepS s)
theorem wf_apply {v u : PV} {x : PE} (h : applyV v x = (0, u)) (hv : WfV v) (hx : WfE x) : WfV u := fun n hn f hf => by
  have hm : f ∈ u.all := mem_all.2 ⟨n, hn, hf⟩
  rcases ((apply_ok h).2 f).1 hm with h1 | h1
  · exact hx f h1
  · obtain ⟨m, hm, h2⟩ := mem_all.1 h1.1
    exact hv m hm f h2
theorem wf_dec {b : List UInt8} {x : PE} (h : decE b = some x) : WfE x := by
  unfold decE at h
  cases e : takeE b with
  | none => rw [e] at h; cases h
  | some y =>
    rw [e, Option.bind_some] at h
    split at h
    · obtain rfl := Option.some.inj h
      exact takeE_wf e
    · cases h
theorem OwnF.lower {w : World} {B B' : Nat} {a : Option Addr} {n c : Nat} {l : List PF} (h : OwnF w B a n c l) (hB : B' ≤ B) : OwnF w B' a n c l := by
  refine ⟨h.size, h.row.1, ?_⟩
  rcases h.row.2 with hn | ⟨g, cp, cur, hv, hg, rest⟩
  · exact .inl hn
  · exact .inr ⟨g, cp, cur, hv, Nat.le_trans hB hg, rest⟩
theorem OwnV.lower {w : World} {B B' : Nat} {v : PV} {t : SV} (h : OwnV w B v t) (hB : B' ≤ B) : OwnV w B' v t := fun n hn => (h n hn).lower hB
theorem OwnV.kept15 {w w' : World} {B : Nat} {v : PV} {t : SV} (h : OwnV w B v t) (hk : ∀ k, k < w.heap.size → B ≤ k → w'.heap[k]? = w.heap[k]?) : OwnV w' B v t := fun n hn => (h n hn).kept fun k e => hk k (tag_lt ((h n hn).tag e)) ((h n hn).ge e)
theorem below_dn15 {B : Nat} {w w' : World} (h : Below B w w') (d : Nat) : Below B w (w'.drewN d) := ⟨h.os, h.tape, h.output, h.size, h.block⟩
def LearnR (w : World) (s : PSt) (b : List UInt8) (e : Ending) (w' : World) : Prop := Below w.heap.size w w' ∧ ((learnP s b = none ∧ ∃ er : Nat, er ≠ 0 ∧ e = .returned (.tuple #[sV zS sv0, .int .i64 (er : Int)])) ∨ ∃ (s' : PSt) (t' : SV), learnP s b = some s' ∧ WfV s'.v ∧ e = .returned (.tuple #[sV s' t', .int .i64 0]) ∧ OwnV w' w.heap.size s'.v t')
set_option maxRecDepth 100000 in
set_option maxHeartbeats 2000000 in
theorem learned_any (s : PSt) (t : SV) (a : Option Addr) (n c : Nat) (b : List UInt8) (w : World) (h : VnAt w s.v t) (hw : WfV s.v) (hn : s.v.all.length < 60000) (hb : BsAt w a n c b) (hl : n ≤ 200000000000000) :
    Calls Tryz.prog 49 #[sV s t, .slice a n c] w (LearnR w s b) := by
  obtain ⟨W1, hW1, HW⟩ : ∃ W1, W1 = (w.alloc (.cells (sA s t) TSt)).alloc (.cells (sA zS sv0) TSt) ∧ Hid (Below w.heap.size w W1 ∧ Box W1 w.heap.size TSt (sA s t) ∧ Box W1 (w.heap.size + 1) TSt (sA zS sv0) ∧ W1.heap.size = w.heap.size + 2) := by
    refine ⟨_, rfl, ((Below.refl _ _).alloc (Nat.le_refl _) _).alloc (by simp) _, (Box.new _ _ _).alloc _, ?_, by simp⟩
    have := Box.new (w.alloc (.cells (sA s t) TSt)) TSt (sA zS sv0)
    rw [World.size_alloc] at this
    exact this
  have HI : Hid (VnAt w s.v t ∧ WfV s.v ∧ s.v.all.length < 60000) := ⟨h, hw, hn⟩
  have hd : ∀ W, W = (w.alloc (.cells (sA s t) TSt)).alloc (.cells (sA zS sv0) TSt) → Calls Tryz.prog 90 #[.slice a n c] W fun r w' => Below W1.heap.size W1 w' ∧ ((decE b = none ∧ r = .returned (.tuple #[.agg #[.int .u64 0, .int .u64 0, .int .u64 0, .slice none 0 0, .slice none 0 0], .int .i64 133])) ∨ ∃ (x : PE) (s : SE), decE b = some x ∧ r = .returned (.tuple #[.agg #[.int .u64 (x.log : Int), .int .u64 (x.next : Int), .int .u64 (x.last : Int), .slice s.a x.dels.length s.c, .slice s.a' x.adds.length s.c'], .int .i64 0]) ∧ OwnG w' W1.heap.size s.a x.dels.length s.c x.dels ∧ OwnF w' W1.heap.size s.a' x.adds.length s.c' x.adds) := by
    rintro W rfl
    rw [← hW1]
    exact edec_any a n c b W1 (hb.below (Nat.le_refl _) HW.out.1) hl
  clear h hw hn hb hl hW1
  go_enter Tryz.func49, Tryz.ntmps49
  go_wp2_with fail
  refine (hd _ rfl).mono ?_
  rintro _ w2 ⟨hb2, ⟨hno, rfl⟩ | ⟨x, se, hx, rfl, hog, hof⟩⟩
  · have H2 : Hid (Below w.heap.size w w2 ∧ Box w2 (w.heap.size + 1) TSt (sA zS sv0) ∧ w.heap.size + 2 ≤ w2.heap.size) := ⟨HW.out.1.trans (hb2.mono HW.out.1.size), HW.out.2.2.1.kept (hb2.block _ HW.out.2.2.1.lt), by rw [← HW.out.2.2.2]; exact hb2.size⟩
    have HN : Hid (learnP s b = none) := by
      unfold Hid learnP
      rw [hno]
      rfl
    clear hb2 hno hd
    obtain ⟨W3, eW3, H3⟩ : ∃ W3, W3 = w2.alloc (.cells #[.int .u64 0, .int .u64 0, .int .u64 0, .slice none 0 0, .slice none 0 0] TE) ∧ Hid (Below w.heap.size w W3 ∧ Box W3 (w.heap.size + 1) TSt (sA zS sv0) ∧ w.heap.size + 2 ≤ W3.heap.size) := ⟨_, rfl, H2.out.1.alloc H2.out.1.size _, H2.out.2.1.alloc _, by have := H2.out.2.2; simp; omega⟩
    go_upto_if 14 with fail
    rw [← eW3]
    clear eW3
    obtain ⟨r0, r1, r2, r3, r4, r5, r6, r7⟩ := H3.out.2.1.eight
    have rs : ∀ j, W3.frozen? ⟨w.heap.size + 1, j, none⟩ = false := fun j => H3.out.2.1.soft j
    obtain ⟨Z, eZ, z0, z1, z2, z3, z4, z5, z6, z7, HZ⟩ := put8_all H3.out.2.1 (.int .u64 0) (.slice none 0 0) (.slice none 0 0) (.slice none 0 0) (.slice none 0 0) (.int .u64 0) (.int .u64 0) (.int .u64 0)
    have HF : Hid (Below w.heap.size w Z) := H3.out.1.trans (HZ.out.2.below (fun k hk => by omega) H3.out.1.size)
    go_wp2
    rw [← eZ]
    refine bodyPost_ret (v := .tuple #[.agg #[.int .u64 0, .slice none 0 0, .slice none 0 0, .slice none 0 0, .slice none 0 0, .int .u64 0, .int .u64 0, .int .u64 0], .int .i64 133]) (by simp [results, Tryz.results49, go_sem, z0, z1, z2, z3, z4, z5, z6, z7]) rfl ?_
    exact ⟨HF.out, .inl ⟨HN.out, 133, by decide, rfl⟩⟩
  · have H2 : Hid (Below w.heap.size w w2 ∧ Box w2 w.heap.size TSt (sA s t) ∧ Box w2 (w.heap.size + 1) TSt (sA zS sv0) ∧ w.heap.size + 2 ≤ w2.heap.size ∧ VnAt w2 s.v t ∧ EdAt w2 x se) :=
      ⟨HW.out.1.trans (hb2.mono HW.out.1.size), HW.out.2.1.kept (hb2.block _ HW.out.2.1.lt), HW.out.2.2.1.kept (hb2.block _ HW.out.2.2.1.lt), by rw [← HW.out.2.2.2]; exact hb2.size, HI.out.1.below (HW.out.1.trans (hb2.mono HW.out.1.size)), hog.gs, hof.fs⟩
    have HX : Hid (decE b = some x ∧ WfE x) := ⟨hx, wf_dec hx⟩
    clear hb2 hx hog hof hd
    obtain ⟨W3, eW3, H3⟩ : ∃ W3, W3 = w2.alloc (.cells #[.int .u64 (x.log : Int), .int .u64 (x.next : Int), .int .u64 (x.last : Int), .slice se.a x.dels.length se.c, .slice se.a' x.adds.length se.c'] TE) ∧ Hid (Below w.heap.size w W3 ∧ Box W3 w.heap.size TSt (sA s t) ∧ Box W3 (w.heap.size + 1) TSt (sA zS sv0) ∧ Box W3 w2.heap.size TE (eA x se) ∧ w.heap.size + 2 ≤ w2.heap.size ∧ VnAt W3 s.v t ∧ EdAt W3 x se) := by
      have hb : Below w2.heap.size w2 (w2.alloc (.cells #[.int .u64 (x.log : Int), .int .u64 (x.next : Int), .int .u64 (x.last : Int), .slice se.a x.dels.length se.c, .slice se.a' x.adds.length se.c'] TE)) := (Below.refl _ _).alloc (Nat.le_refl _) _
      exact ⟨_, rfl, H2.out.1.alloc H2.out.1.size _, H2.out.2.1.alloc _, H2.out.2.2.1.alloc _, Box.new _ _ _, H2.out.2.2.2.1, H2.out.2.2.2.2.1.below hb, H2.out.2.2.2.2.2.below hb⟩
    go_upto_if 14 with fail
    rw [← eW3]
    obtain ⟨q, hq⟩ : ∃ q, q = w2.heap.size := ⟨_, rfl⟩
    rw [← hq] at H3 ⊢
    clear eW3 hq
    have HAP : Hid (∀ W, W = W3 → Calls Tryz.prog 27 #[.agg #[.slice (t.a 0) (s.v 0).length (t.c 0), .slice (t.a 1) (s.v 1).length (t.c 1), .slice (t.a 2) (s.v 2).length (t.c 2), .slice (t.a 3) (s.v 3).length (t.c 3)], .agg #[.int .u64 (x.log : Int), .int .u64 (x.next : Int), .int .u64 (x.last : Int), .slice se.a x.dels.length se.c, .slice se.a' x.adds.length se.c']] W fun e w' => ∃ t : SV, e = .returned (.tuple #[.agg #[.slice (t.a 0) ((applyV s.v x).2 0).length (t.c 0), .slice (t.a 1) ((applyV s.v x).2 1).length (t.c 1), .slice (t.a 2) ((applyV s.v x).2 2).length (t.c 2), .slice (t.a 3) ((applyV s.v x).2 3).length (t.c 3)], .int .i64 (((applyV s.v x).1 : Nat) : Int)]) ∧ OwnV w' W3.heap.size (applyV s.v x).2 t ∧ Below W3.heap.size W3 w') := by
      rintro W rfl
      exact vapply_any s.v t x se _ H3.out.2.2.2.2.2.1 H3.out.2.2.2.2.2.2 HI.out.2.1 HX.out.2 HI.out.2.2
    obtain ⟨res, hres⟩ : ∃ res, res = applyV s.v x := ⟨_, rfl⟩
    rw [← hres] at HAP
    have HRS : Hid (res = applyV s.v x) := hres
    clear hres
    have s0 := H3.out.2.1.eight
    obtain ⟨c0, c1, c2, c3, c4, c5, c6, c7⟩ := s0
    obtain ⟨d0, d1, d2, d3, d4⟩ := H3.out.2.2.2.1.five
    go_wp2_with fail
    refine (HAP.out _ rfl).mono ?_
    rintro _ w4 ⟨t4, rfl, ho4, hb4⟩
    clear c0 c1 c2 c3 c4 c5 c6 c7 d0 d1 d2 d3 d4
    have H4 : Hid (Below w.heap.size w w4 ∧ Box w4 w.heap.size TSt (sA s t) ∧ Box w4 (w.heap.size + 1) TSt (sA zS sv0) ∧ Box w4 q TE (eA x se) ∧ w.heap.size + 2 ≤ q ∧ OwnV w4 (w.heap.size + 2) res.2 t4 ∧ w.heap.size + 2 ≤ w4.heap.size) := by
      have h0 := H3.out.2.2.2.1.lt
      have h1 := H3.out.2.2.2.2.1
      exact ⟨H3.out.1.trans (hb4.mono H3.out.1.size), H3.out.2.1.kept (hb4.block _ H3.out.2.1.lt), H3.out.2.2.1.kept (hb4.block _ H3.out.2.2.1.lt), H3.out.2.2.2.1.kept (hb4.block _ H3.out.2.2.2.1.lt), H3.out.2.2.2.2.1, ho4.lower (by omega), by have := hb4.size; omega⟩
    clear ho4 hb4 HAP
    obtain ⟨c0, c1, c2, c3, c4, c5, c6, c7⟩ := H4.out.2.1.eight
    have cs : ∀ j, w4.frozen? ⟨w.heap.size, j, none⟩ = false := fun j => H4.out.2.1.soft j
    obtain ⟨Y, eY, HY⟩ := put4_all H4.out.2.1 res.2 t4
    have H5 : Hid (Below w.heap.size w Y ∧ Box Y w.heap.size TSt (sA ⟨s.num, res.2, s.log, s.next, s.last⟩ t4) ∧ Box Y (w.heap.size + 1) TSt (sA zS sv0) ∧ Box Y q TE (eA x se) ∧ w.heap.size + 2 ≤ q ∧ OwnV Y (w.heap.size + 2) res.2 t4) := by
      have hq := H4.out.2.2.2.2.1
      have hk : ∀ k, k < w4.heap.size → k ≠ w.heap.size → Y.heap[k]? = w4.heap[k]? := fun k h1 h2 => HY.out.2.block k h1 h2
      exact ⟨H4.out.1.trans (HY.out.2.below (fun k hk => by omega) H4.out.1.size), HY.out.1, H4.out.2.2.1.kept (hk _ H4.out.2.2.1.lt (by omega)), H4.out.2.2.2.1.kept (hk _ H4.out.2.2.2.1.lt (by omega)), hq, H4.out.2.2.2.2.2.1.kept15 (fun k h1 h2 => hk k h1 (by omega))⟩
    go_upto_if 26 with fail
    rw [← eY]
    clear eY c0 c1 c2 c3 c4 c5 c6 c7 cs
    by_cases hz : res.1 = 0
    · have HL : Hid (learnP s b = some (s.turn x res.2)) := by
        unfold Hid learnP stepS
        rw [HX.out.1, Option.bind_some, ← HRS.out, if_pos hz]
      have HWF : Hid (WfV res.2) := wf_apply (v := s.v) (x := x) (by rw [← HRS.out, ← hz]) HI.out.2.1 HX.out.2
      obtain ⟨c0, c1, c2, c3, c4, c5, c6, c7⟩ := H5.out.2.1.eight
      obtain ⟨d0, d1, d2, d3, d4⟩ := H5.out.2.2.2.1.five
      rw [hz]
      go_upto_region 7 with fail
      refine wp_region_staged (C := fun V => ∃ n, V = Y.drewN n) 16 5 rfl (by kernel_rfl) (by kernel_rfl) (by kernel_rfl) ⟨1, rfl⟩ ?_
      simp only [List.take_succ_cons, List.take_zero]
      repeat (quiet_step (first | ((go_at_call 91; exact Calls.quiet_of_same (told_any _ _ _)))))
      refine wpQuiet_nil ?_
      rintro _ ⟨nq, rfl⟩
      have hHeld : True := trivial
      have cs : ∀ j, (Y.drewN nq).frozen? ⟨w.heap.size, j, none⟩ = false := fun j => H5.out.2.1.soft j
      have e5 : (Y.drewN nq).cell? ⟨w.heap.size, 5, none⟩ = some (.int .u64 (s.log : Int)) := c5
      have e6 : (Y.drewN nq).cell? ⟨w.heap.size, 6, none⟩ = some (.int .u64 (s.next : Int)) := c6
      have e7 : (Y.drewN nq).cell? ⟨w.heap.size, 7, none⟩ = some (.int .u64 (s.last : Int)) := c7
      have H6 : Hid (Below w.heap.size w (Y.drewN nq) ∧ Box (Y.drewN nq) w.heap.size TSt (sA ⟨s.num, res.2, s.log, s.next, s.last⟩ t4) ∧ Box (Y.drewN nq) (w.heap.size + 1) TSt (sA zS sv0) ∧ OwnV (Y.drewN nq) (w.heap.size + 2) res.2 t4) :=
        ⟨below_dn15 H5.out.1 nq, H5.out.2.1, H5.out.2.2.1, H5.out.2.2.2.2.2.kept15 (w' := Y.drewN nq) (fun _ _ _ => rfl)⟩
      generalize Y.drewN nq = Y2 at *
      refine wpAnyH_ready (rs := [16]) (by kernel_rfl) (by simp) ?_
      refine AllReadyH.cons rfl (fun K hK => ?_) (AllReadyH.nil)
      go_simp
      refine hK.out _ _ trivial (fun hHeld => ?_)
      clear hK K
      try simp only [Act.put, List.getElem_toArray, List.getElem_cons_succ, List.getElem_cons_zero, Array.getInternal_eq_getElem, List.setIfInBounds_toArray, List.set_cons_zero, List.set_cons_succ]
      refine wpAnyH_take (i := 17) (v := ?_) rfl (by kernel_rfl) (by kernel_rfl) (by kernel_rfl) (fun _ _ _ h => h) (Or.inl ⟨by rfl, ?_⟩) hHeld ?_
      rotate_left
      · intro w hSw
        try dsimp only at hSw
        go_simp
        try with_reducible rfl
      try simp only [Act.put, List.getElem_toArray, List.getElem_cons_succ, List.getElem_cons_zero, Array.getInternal_eq_getElem, List.setIfInBounds_toArray, List.set_cons_zero, List.set_cons_succ]
      refine wpAnyH_ready (rs := [18]) (by kernel_rfl) (by simp) ?_
      refine AllReadyH.cons rfl (fun K hK => ?_) (AllReadyH.nil)
      go_simp
      refine hK.out _ _ trivial (fun hHeld => ?_)
      clear hK K
      try simp only [Act.put, List.getElem_toArray, List.getElem_cons_succ, List.getElem_cons_zero, Array.getInternal_eq_getElem, List.setIfInBounds_toArray, List.set_cons_zero, List.set_cons_succ]
      refine wpAnyH_take (i := 19) (v := ?_) rfl (by kernel_rfl) (by kernel_rfl) (by kernel_rfl) (fun _ _ _ h => h) (Or.inl ⟨by rfl, ?_⟩) hHeld ?_
      rotate_left
      · intro w hSw
        try dsimp only at hSw
        go_simp
        try with_reducible rfl
      try simp only [Act.put, List.getElem_toArray, List.getElem_cons_succ, List.getElem_cons_zero, Array.getInternal_eq_getElem, List.setIfInBounds_toArray, List.set_cons_zero, List.set_cons_succ]
      refine wpAnyH_ready (rs := [20]) (by kernel_rfl) (by simp) ?_
      refine AllReadyH.cons rfl (fun K hK => ?_) (AllReadyH.nil)
      go_simp
      refine hK.out _ _ trivial (fun hHeld => ?_)
      clear hK K
      try simp only [Act.put, List.getElem_toArray, List.getElem_cons_succ, List.getElem_cons_zero, Array.getInternal_eq_getElem, List.setIfInBounds_toArray, List.set_cons_zero, List.set_cons_succ]
      refine wpAnyH_done (by kernel_rfl) ?_ _
      obtain ⟨Z3, e3, HZ3⟩ := put3_all H6.out.2.1 (toldN s.log x.log) (toldN s.next x.next) (toldN s.last x.last)
      rw [← e3]
      have H7 : Hid (Below w.heap.size w Z3 ∧ Box Z3 w.heap.size TSt (sA (s.turn x res.2) t4) ∧ Box Z3 (w.heap.size + 1) TSt (sA zS sv0) ∧ OwnV Z3 (w.heap.size + 2) res.2 t4) := by
        have hk : ∀ k, k < Y2.heap.size → k ≠ w.heap.size → Z3.heap[k]? = Y2.heap[k]? := fun k h1 h2 => HZ3.out.2.block k h1 h2
        exact ⟨H6.out.1.trans (HZ3.out.2.below (fun k hk => by omega) H6.out.1.size), HZ3.out.1, H6.out.2.2.1.kept (hk _ H6.out.2.2.1.lt (by omega)), H6.out.2.2.2.kept15 (fun k h1 h2 => hk k h1 (by omega))⟩
      have HT : Hid ((s.turn x res.2).v = res.2 ∧ (s.turn x res.2).num = s.num) := ⟨rfl, rfl⟩
      generalize s.turn x res.2 = s2 at *
      clear e3 cs e5 e6 e7 c0 c1 c2 c3 c4 c5 c6 c7 d0 d1 d2 d3 d4 hHeld
      obtain ⟨c0, c1, c2, c3, c4, c5, c6, c7⟩ := H7.out.2.1.eight
      obtain ⟨r0, r1, r2, r3, r4, r5, r6, r7⟩ := H7.out.2.2.1.eight
      have rs : ∀ j, Z3.frozen? ⟨w.heap.size + 1, j, none⟩ = false := fun j => H7.out.2.2.1.soft j
      obtain ⟨Z, eZ, z0, z1, z2, z3, z4, z5, z6, z7, HZ⟩ := put8_all H7.out.2.2.1 (.int .u64 (s2.num : Int)) (.slice (t4.a 0) (s2.v 0).length (t4.c 0)) (.slice (t4.a 1) (s2.v 1).length (t4.c 1)) (.slice (t4.a 2) (s2.v 2).length (t4.c 2)) (.slice (t4.a 3) (s2.v 3).length (t4.c 3)) (.int .u64 (s2.log : Int)) (.int .u64 (s2.next : Int)) (.int .u64 (s2.last : Int))
      have HF : Hid (Below w.heap.size w Z ∧ OwnV Z w.heap.size s2.v t4 ∧ WfV s2.v) := by
        rw [HT.out.1]
        exact ⟨H7.out.1.trans (HZ.out.2.below (fun k hk => by omega) H7.out.1.size), (H7.out.2.2.2.kept15 (fun k h1 h2 => HZ.out.2.block k h1 (by omega))).lower (by omega), HWF.out⟩
      go_wp2
      rw [← eZ]
      refine bodyPost_ret (v := .tuple #[sV s2 t4, .int .i64 0]) (by simp [results, Tryz.results49, go_sem, z0, z1, z2, z3, z4, z5, z6, z7]) rfl ?_
      exact ⟨HF.out.1, .inr ⟨s2, t4, HL.out, HF.out.2.2, rfl, HF.out.2.1⟩⟩
    · have hb : ((res.1 : Int) != 0) = true := by simp; omega
      have HN : Hid (learnP s b = none ∧ res.1 ≠ 0) := by
        refine ⟨?_, hz⟩
        unfold learnP stepS
        rw [HX.out.1, Option.bind_some, ← HRS.out, if_neg hz]
      clear hz
      obtain ⟨r0, r1, r2, r3, r4, r5, r6, r7⟩ := H5.out.2.2.1.eight
      have rs : ∀ j, Y.frozen? ⟨w.heap.size + 1, j, none⟩ = false := fun j => H5.out.2.2.1.soft j
      obtain ⟨Z, eZ, z0, z1, z2, z3, z4, z5, z6, z7, HZ⟩ := put8_all H5.out.2.2.1 (.int .u64 0) (.slice none 0 0) (.slice none 0 0) (.slice none 0 0) (.slice none 0 0) (.int .u64 0) (.int .u64 0) (.int .u64 0)
      have HF : Hid (Below w.heap.size w Z) := H5.out.1.trans (HZ.out.2.below (fun k hk => by omega) H5.out.1.size)
      go_wp2
      rw [← eZ]
      refine bodyPost_ret (v := .tuple #[.agg #[.int .u64 0, .slice none 0 0, .slice none 0 0, .slice none 0 0, .slice none 0 0, .int .u64 0, .int .u64 0, .int .u64 0], .int .i64 (res.1 : Int)]) (by simp [results, Tryz.results49, go_sem, z0, z1, z2, z3, z4, z5, z6, z7]) rfl ?_
      exact ⟨HF.out, .inl ⟨HN.out.1, res.1, HN.out.2, rfl⟩⟩
end Go.Proofs.YtmlfbihlbiikeaaGreatDoor
namespace Go.Proofs.YtmlfbihlbiikeaaGreatDoor
open Go.RowKit

theorem left_eq (x : Int) (p : Nat) (w : World) (hx : x = (p : Int)) (hp : p ≤ 9223372036854775807) : Calls Tryz.prog 119 #[.int .i64 x] w fun e w' => e = .returned (.int .i64 (leftN p : Nat)) ∧ w' = w := by
  subst hx
  exact left_any p w hp
theorem left_at (x : Int) (p L : Nat) (w : World) (hx : x = (p : Int)) (hp : p ≤ 9223372036854775807) (hL : leftN p = L) : Calls Tryz.prog 119 #[.int .i64 x] w fun e w' => e = .returned (.int .i64 (L : Nat)) ∧ w' = w := by
  subst hL
  exact left_eq x p w hx hp
def lenV : Value → Nat
  | .slice _ n _ => n
  | _ => 0
def boolV : Value → Bool
  | .bool b => b
  | _ => false
theorem OwnB.nilAt (w : World) (B : Nat) : OwnB w B none 0 0 [] := ⟨rfl, World.ownsRow_nil _ _ _ _⟩
set_option maxHeartbeats 400000 in
theorem put_great (x : Int) (a : Option Addr) (len cap : Nat) (w : World) (hx : 0 ≤ x) (hl : 131072 < len) :
    Calls Tryz.prog 71 #[.int .i64 x, .slice a len cap] w fun e w' => e = .returned (.tuple #[.slice none 0 0, .int .i64 90]) ∧ w' = w := by
  go_enter Tryz.func71, Tryz.ntmps71
  go_wp2
  go_ret2
  exact ⟨rfl, rfl⟩

def PutRel (w : World) (q : Nat) (b : List UInt8) (out rest fst : Value) (wr : World) : Prop :=
  ∃ (a3 ar : Option Addr) (c3 lo lr cr : Nat) (o r : List UInt8) (f : Bool), out = .slice a3 lo c3 ∧ rest = .slice ar lr cr ∧ fst = .bool f ∧ lo ≤ 139000 ∧ lr ≤ 131072 ∧ Hid (OwnB wr w.heap.size a3 lo c3 o) ∧ Hid (BsAt w ar lr cr r) ∧ Hid (Below w.heap.size w wr) ∧ Hid (o ++ putP (q + lo) f r = putP q true b) ∧ Hid (f = true → a3 = none ∧ lo = 0 ∧ c3 = 0) ∧ Hid (f = false → (q + lo) % 128 = 0 ∨ r = [])
def putM (q : Nat) (out rest fst : Value) : Nat := 2 * lenV rest + (if roomN (q + lenV out) = 0 then 1 else 0) + (if boolV fst = true then 2 else 0)
set_option maxRecDepth 100000 in
set_option maxHeartbeats 1000000 in
theorem put_at (p : Nat) (a : Option Addr) (len cap : Nat) (b : List UInt8) (w : World) (h : BsAt w a len cap b) (hp : p ≤ 9223372036854775807) (hl : len ≤ 131072) :
    Calls Tryz.prog 71 #[.int .i64 (p : Int), .slice a len cap] w fun e w' => ∃ a' c', e = .returned (.tuple #[.slice a' (putP p true b).length c', .int .i64 0]) ∧ OwnB w' w.heap.size a' (putP p true b).length c' (putP p true b) ∧ Below w.heap.size w w' := by
  obtain ⟨q, hq, HQI, HQ⟩ : ∃ q : Nat, q < 128 ∧ Hid ((p : Int) % 128 = (q : Int)) ∧ Hid (putP p true b = putP q true b) := ⟨p % 128, by omega, by unfold Hid; omega, put_mod p true b _ (by omega)⟩
  have HT : Hid ((putP q true b).length ≤ 139000) := by
    have h1 := put_short q b
    have h2 := h.size
    unfold Hid
    omega
  rw [HQ.out]
  have HBS : Hid (BsAt w a len cap b) := h
  clear HQ h
  go_enter Tryz.func71, Tryz.ntmps71
  go_wp2
  go_loopw [6, 7, 8] (fun out rest fst wr => PutRel w q b out rest fst wr) (fun out rest fst _ => putM q out rest fst)
  case atStart => exact ⟨none, a, 0, 0, len, cap, [], b, true, rfl, rfl, rfl, by omega, hl, OwnB.nilAt _ _, HBS.out, Below.refl _ _, rfl, fun _ => ⟨rfl, rfl, rfl⟩, fun h => by cases h⟩
  case round =>
    obtain ⟨a3, ar, c3, lo, lr, cr, o, r, f, rfl, rfl, rfl, hlo, hlr, HO, HR, HB, HE, HF, HG⟩ := hrel
    have HRL : Hid (r.length = lr) := HR.out.size
    by_cases hdone : f = false ∧ r = []
    · obtain ⟨rfl, rfl⟩ := hdone
      obtain rfl : lr = 0 := HRL.out.symm
      go_wp2
      go_ret2
      have e := HE.out
      rw [putP_done, List.append_nil] at e
      rw [← e, HO.out.size]
      exact ⟨a3, c3, rfl, HO.out, HB.out⟩
    · obtain ⟨n, HNX⟩ : ∃ n, Hid (nextN (q + lo) r = n) := ⟨_, rfl⟩
      obtain ⟨P, HP⟩ : ∃ P, Hid (padN (q + lo) = P) := ⟨_, rfl⟩
      obtain ⟨M, HM⟩ : ∃ M, Hid (roomN (q + lo) = M) := ⟨_, rfl⟩
      obtain ⟨L, HL⟩ : ∃ L, Hid (leftN (q + lo) = L) := ⟨_, rfl⟩
      have hlp := leftN_pos (q + lo)
      have hrp := room_pad (q + lo)
      have hnl := next_le (q + lo) r
      have HS := putP_step (q + lo) f r hdone
      have HN := need_less (q + lo) f r hdone
      have HMIN : Hid (n = min lr M) := by unfold Hid; rw [← HNX.out, ← HRL.out, ← HM.out]; rfl
      rw [HL.out] at hlp
      rw [HM.out, HP.out] at hrp
      rw [HNX.out, HRL.out, HM.out] at hnl
      rw [HNX.out, HP.out] at HS HN
      have hbound : lo + P + 7 + n ≤ 139000 := by
        have e := congrArg List.length HE.out
        have := HT.out
        rw [HS] at e
        simp only [List.length_append, List.length_replicate, pcEnc_length, List.length_take, HO.out.size, HRL.out] at e
        omega
      have HS' : Hid (o ++ List.replicate P 0 ++ pcEnc (kindN f (decide (n = lr))) (r.take n) ++ putP (q + lo + P + 7 + n) false (r.drop n) = putP q true b) := by
        unfold Hid
        rw [← HE.out, HS, HRL.out]
        simp
      have HNN : Hid (needN (q + lo + P + 7 + n) false (r.drop n) < needN (q + lo) f r) := HN
      have HG' : Hid ((q + lo + P + 7 + n) % 128 = 0 ∨ r.drop n = []) := by
        by_cases hc : n = lr
        · exact .inr (List.drop_eq_nil_of_le (by rw [HRL.out]; omega))
        · have := room_full (q + lo)
          rw [HP.out, HM.out] at this
          exact .inl (by have := HMIN.out; rw [show n = M by omega]; assumption)
      have h7 : L < 7 ∧ P = L ∧ M = 121 ∨ 7 ≤ L ∧ P = 0 ∧ M = L - 7 := by
        rw [← HL.out, ← HP.out, ← HM.out]
        unfold padN roomN
        split
        · exact .inl ⟨by assumption, rfl, rfl⟩
        · exact .inr ⟨by omega, rfl, rfl⟩
      have HF7 : Hid (L < 7 → f = true) := by
        intro hL
        cases f with
        | true => rfl
        | false =>
          rcases HG.out rfl with hz | hz
          · have := HL.out
            unfold leftN at this
            omega
          · exact absurd ⟨rfl, hz⟩ hdone
      obtain ⟨at1, hs1, hs1'⟩ := slice_to HR.out n hnl.1
      obtain ⟨at2, hs2, hs2'⟩ := slice_any HR.out n hnl.1
      have HS1 : Hid (∀ W bs, BsAt W ar lr cr bs → BsAt W at1 n cr (bs.take n)) := hs1'
      have HS2 : Hid (∀ W bs, BsAt W ar lr cr bs → BsAt W at2 (lr - n) (cr - n) (bs.drop n)) := hs2'
      have hgo : f = true ∨ 0 < lr := by
        cases f with
        | true => exact .inl rfl
        | false =>
          right
          rw [← HRL.out]
          exact List.length_pos_iff.2 (fun e => hdone ⟨rfl, e⟩)
      clear hs1' hs2' HS HN hdone HE HG
      cases f
      all_goals first | (have hlr0 : 0 < lr := by simpa using hgo) | skip
      all_goals clear hgo
      all_goals
        go_upto_if 31 with (go_at_call 119; refine (left_at _ (q + lo) L _ (by have := HQI.out; omega) (by omega) HL.out).mono ?_; rintro e w1 ⟨rfl, rfl⟩)
        go_cut [6, 9] (fun out left wc => ∃ (a4 : Option Addr) (c4 L4 : Nat), out = .slice a4 (lo + P) c4 ∧ left = .int .i64 (L4 : Int) ∧ Hid (L4 = M + 7) ∧ Hid (OwnB wc w.heap.size a4 (lo + P) c4 (o ++ List.replicate P 0)) ∧ Hid (Below w.heap.size w wc))
        case first =>
          by_cases hL7 : L < 7
          · first
              | (cases HF7.out hL7; done)
              | (obtain ⟨rfl, rfl, rfl⟩ := HF.out (by trivial)
                 obtain rfl : o = [] := List.eq_nil_of_length_eq_zero HO.out.size
                 obtain rfl : P = L := by omega
                 go_wp2_with (at_builtin; refine wpList_zeros _ rfl _ _ rfl w.heap.size P rfl rfl (by omega) (by omega) HB.out.size ?_)
                 intro a4 c4 w4 ho4 hb4
                 go_wp2_with fail
                 go_meet
                 exact ⟨a4, c4, 128, by rw [Nat.zero_add], rfl, by unfold Hid; omega, by rw [Nat.zero_add]; exact ho4, HB.out.trans (hb4.mono HB.out.size)⟩)
          · obtain rfl : P = 0 := by omega
            go_wp2_with fail
            go_meet
            exact ⟨a3, c3, L, rfl, rfl, by unfold Hid; omega, by unfold Hid; simpa using HO.out, HB.out⟩
        case rest =>
          obtain ⟨a4, c4, L4, rfl, rfl, HL4, HO4, HB4⟩ := hcut
          have hl7 : 7 ≤ L4 := by have := HL4.out; omega
          have hl8 : L4 ≤ 128 := by have := HL4.out; omega
          go_upto_region 15 with fail
          go_cut [10] (fun s wz => s = .int .i64 (n : Int) ∧ wz = wc)
          case first =>
            have hl4 := HL4.out
            have hmn := HMIN.out
            by_cases hc : (L4 : Int) - 7 < (lr : Int)
            · obtain ⟨e, HE2⟩ : ∃ e : Int, Hid ((n : Int) = e ∧ (L4 : Int) - 7 = e) := ⟨n, rfl, by omega⟩
              clear hl4 hmn
              go_wp2_with fail
              go_meet
              exact ⟨by first | (rw [HE2.out.1, HE2.out.2]; done) | (have h1 := HE2.out.1; have h2 := HE2.out.2; congr 1; omega), rfl⟩
            · obtain ⟨e, HE2⟩ : ∃ e : Int, Hid ((n : Int) = e ∧ (lr : Int) = e) := ⟨n, rfl, by omega⟩
              have hc' : decide ((L4 : Int) - 7 < (lr : Int)) = false := by simpa using hc
              clear hl4 hmn
              go_wp2_with fail
              go_meet
              exact ⟨by first | (rw [HE2.out.1, HE2.out.2]; done) | (have h1 := HE2.out.1; have h2 := HE2.out.2; congr 1; omega), rfl⟩
          case rest =>
            obtain ⟨rfl, rfl⟩ := hcut
            have HBT : Hid _ := HS1.out _ _ (HR.out.below (Nat.le_refl _) HB4.out)
            go_wp2_with fail
            go_region_held3 (fun _ => True) (trivial) (first
              | (refine step_appB rfl (.tmp 40) (.tmp 50) rfl w.heap.size a4 (lo + P) c4 (o ++ List.replicate P 0) (by simp [Act.eval]) HO5.out a5 (7 + n) c5 _ (by simp [Act.eval]) HS5.out (by omega) HB5.out.size ?_
                 intro a6 c6 w6 ho6 hb6)
              | (go_at_call 121; refine (kindOf_any _ _ _).mono ?_; rintro e w' ⟨rfl, rfl⟩)
              | (go_at_call 120; refine (pieceBytes_any _ _ _ _ (r.take n) _ HBT.out.drew (by omega)).mono ?_; rintro e w5 ⟨a5, c5, rfl, ho5, hb5⟩
                 have HB5 : Hid (Below w.heap.size w w5) := HB4.out.drew.trans (hb5.mono HB4.out.size)
                 have HO5 : Hid (OwnB w5 w.heap.size a4 (lo + P) c4 (o ++ List.replicate P 0)) := HO4.out.below ((Below.refl _ _).drew.trans hb5)
                 have HS5 : Hid (BsAt w5 a5 (7 + n) c5 _) := ho5.bs
                 clear ho5))
            have HB6 : Hid (Below w.heap.size w w6) := HB5.out.trans hb6
            have HO6 : Hid _ := ho6
            clear ho6 hb6 HB5 HO5 HS5
            go_wp2
            go_roundw
            case rel =>
              refine ⟨a6, at2, c6, lo + P + (7 + n), lr - n, cr - n, _, r.drop n, false, rfl, rfl, rfl, by omega, by omega, HO6.out, HS2.out _ _ HR.out, HB6.out, ?_, (fun h => by cases h), fun _ => ?_⟩
              · have e := HS'.out
                rw [show q + (lo + P + (7 + n)) = q + lo + P + 7 + n by omega]
                rw [← e]
                have hk : ((n : Int) == (lr : Int)) = decide (n = lr) := by
                  by_cases hc : n = lr
                  · subst hc
                    simp
                  · simp [hc]
                    omega
                rw [hk]
                rfl
              · rw [show q + (lo + P + (7 + n)) = q + lo + P + 7 + n by omega]
                exact HG'.out
            case measure =>
              have := HNN.out
              unfold needN at this
              rw [List.length_drop, HRL.out] at this
              rw [show q + lo + P + 7 + n = q + (lo + P + (7 + n)) by omega] at this
              exact this
end Go.Proofs.YtmlfbihlbiikeaaGreatDoor
