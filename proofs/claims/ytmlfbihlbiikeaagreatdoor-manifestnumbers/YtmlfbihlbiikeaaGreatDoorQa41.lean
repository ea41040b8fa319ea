/- The contract of version's Apply. -/
import Derived.Test.YtmlfbihlbiikeaaGreatDoorQa11
import Derived.Test.YtmlfbihlbiikeaaGreatDoorQa40
import Derived.Test.YtmlfbihlbiikeaaGreatDoorQa14
import Derived.Deep.RegionHeld3
namespace Go.Proofs.YtmlfbihlbiikeaaGreatDoor
open Go.RowKit
set_option linter.unusedVariables false
set_option linter.unusedSimpArgs false
abbrev TA4 : TypeId := 42
structure ResV (v : PV) (x : PE) (res : Nat × PV) : Prop where
  form : ¬ VOk v → res = (140, noV)
  err : VOk v → x.err ≠ 0 → res = (x.err, noV)
  gone : VOk v → x.err = 0 → delsV v x.dels = none → res = (141, noV)
  adds : VOk v → x.err = 0 → ∀ u, delsV v x.dels = some u → res = addsV u x.adds
theorem resV (v : PV) (x : PE) : ResV v x (applyV v x) := ⟨apply_form, apply_err, apply_gone, fun h he u hd => apply_mk h he hd⟩
structure KpA (w : World) (x : PE) (se : SE) (W : World) : Prop where
  below : Below w.heap.size w W
  ed : Box W (w.heap.size + 1) TE (eA x se)
  res : Box W (w.heap.size + 2) TVn #[.slice none 0 0, .slice none 0 0, .slice none 0 0, .slice none 0 0]
theorem KpA.later {w W W' : World} {x : PE} {se : SE} (h : KpA w x se W) (hb : Below W.heap.size W W') : KpA w x se W' := ⟨h.below.trans (hb.mono h.below.size), h.ed.kept (hb.block _ h.ed.lt), h.res.kept (hb.block _ h.res.lt)⟩
theorem KpA.turned {w W W' : World} {x : PE} {se : SE} {P : Nat → Prop} (h : KpA w x se W) (hc : Chg P W W') (hp : ∀ k, P k → w.heap.size + 3 ≤ k) : KpA w x se W' :=
  ⟨h.below.trans (hc.below (fun k hk => by have := hp k hk; omega) h.below.size), h.ed.kept (hc.block _ h.ed.lt (fun hk => by have := hp _ hk; omega)), h.res.kept (hc.block _ h.res.lt (fun hk => by have := hp _ hk; omega))⟩
set_option maxRecDepth 100000 in
theorem idxP_arr (p k : Nat) (hk : k < 4) (W : World) : (Instr.indexAt TA4 (.pointer (some ⟨p, 0, none⟩)) (.int .i64 (k : Int))).run Tryz.prog W = .ok (.pointer (some ⟨p, k, none⟩)) W := by
  have h1 : (k : Int) < 4 := by omega
  have hsz : (sizeOf 41).run Tryz.prog W = .ok 1 W := by kernel_rfl
  simp [Instr.indexAt, run_underlying Tryz.underlying42, asIntOf, h1, hk, show ¬ 4 ≤ k by omega, hsz, Addr.add_lit, go_sem]
theorem arr_four {arr : Array Value} {u : PV} {t : SV} (hs : arr.size = 4) (h : ∀ j, j < 4 → arr[j]? = some (.slice (t.a j) (u j).length (t.c j))) : arr = vA u t := by
  apply Array.ext_getElem?
  intro j
  by_cases hj : j < 4
  · rw [h j hj]
    exact four (P := fun j => some (Value.slice (t.a j) (u j).length (t.c j)) = (vA u t)[j]?) hj rfl rfl rfl rfl
  · rw [Array.getElem?_eq_none (by omega), Array.getElem?_eq_none (by simp [vA]; omega)]
theorem KpA.back {w W : World} {x : PE} {se : SE} (h : KpA w x se W) (s0 s1 s2 s3 : Value) : ∃ Z, Z = (((W.setCell ⟨w.heap.size + 1 + 1, 0, none⟩ s0).setCell ⟨w.heap.size + 1 + 1, 1, none⟩ s1).setCell ⟨w.heap.size + 1 + 1, 2, none⟩ s2).setCell ⟨w.heap.size + 1 + 1, 3, none⟩ s3 ∧ Z.cell? ⟨w.heap.size + 1 + 1, 0, none⟩ = some s0 ∧ Z.cell? ⟨w.heap.size + 1 + 1, 1, none⟩ = some s1 ∧ Z.cell? ⟨w.heap.size + 1 + 1, 2, none⟩ = some s2 ∧ Z.cell? ⟨w.heap.size + 1 + 1, 3, none⟩ = some s3 ∧ Hid (Chg (fun k => k = w.heap.size + 2) W Z) := by
  have hb : Box W (w.heap.size + 1 + 1) TVn #[.slice none 0 0, .slice none 0 0, .slice none 0 0, .slice none 0 0] := h.res
  have h4 := (((hb.set 0 s0).set 1 s1).set 2 s2).set 3 s3
  have hc : Chg (fun k => k = w.heap.size + 2) W ((((W.setCell ⟨w.heap.size + 1 + 1, 0, none⟩ s0).setCell ⟨w.heap.size + 1 + 1, 1, none⟩ s1).setCell ⟨w.heap.size + 1 + 1, 2, none⟩ s2).setCell ⟨w.heap.size + 1 + 1, 3, none⟩ s3) := ((((Chg.refl (fun k => k = w.heap.size + 2) W).set (fun _ => rfl) _ _).set (fun _ => rfl) _ _).set (fun _ => rfl) _ _).set (fun _ => rfl) _ _
  refine ⟨_, rfl, ?_, ?_, ?_, ?_, hc⟩
  · rw [h4.cell]; rfl
  · rw [h4.cell]; rfl
  · rw [h4.cell]; rfl
  · rw [h4.cell]; rfl
set_option maxRecDepth 100000 in
set_option maxHeartbeats 8000000 in
theorem vapply_any (v : PV) (s : SV) (x : PE) (se : SE) (w : World) (h : VnAt w v s) (hx : EdAt w x se) (hw : WfV v) (hwx : WfE x) (hn : v.all.length < 60000) :
    Calls Tryz.prog 27 #[.agg #[.slice (s.a 0) (v 0).length (s.c 0), .slice (s.a 1) (v 1).length (s.c 1), .slice (s.a 2) (v 2).length (s.c 2), .slice (s.a 3) (v 3).length (s.c 3)], .agg #[.int .u64 (x.log : Int), .int .u64 (x.next : Int), .int .u64 (x.last : Int), .slice se.a x.dels.length se.c, .slice se.a' x.adds.length se.c']] w fun e w' => ∃ t : SV, e = .returned (.tuple #[.agg #[.slice (t.a 0) ((applyV v x).2 0).length (t.c 0), .slice (t.a 1) ((applyV v x).2 1).length (t.c 1), .slice (t.a 2) ((applyV v x).2 2).length (t.c 2), .slice (t.a 3) ((applyV v x).2 3).length (t.c 3)], .int .i64 (((applyV v x).1 : Nat) : Int)]) ∧ OwnV w' w.heap.size (applyV v x).2 t ∧ Below w.heap.size w w' := by
  have HRV : Hid (ResV v x (applyV v x)) := resV v x
  generalize applyV v x = res at HRV ⊢
  obtain ⟨W1, e1, HW⟩ : ∃ W1, W1 = ((w.alloc (.cells (vA v s) TVn)).alloc (.cells (eA x se) TE)).alloc (.cells #[.slice none 0 0, .slice none 0 0, .slice none 0 0, .slice none 0 0] TVn) ∧ Hid (KpA w x se W1 ∧ Box W1 w.heap.size TVn (vA v s) ∧ W1.heap.size = w.heap.size + 3) := by
    have hb : Below w.heap.size w (((w.alloc (.cells (vA v s) TVn)).alloc (.cells (eA x se) TE)).alloc (.cells #[.slice none 0 0, .slice none 0 0, .slice none 0 0, .slice none 0 0] TVn)) := (((Below.refl _ _).alloc (Nat.le_refl _) _).alloc (by simp) _).alloc (by simp; omega) _
    have b1 : Box (((w.alloc (.cells (vA v s) TVn)).alloc (.cells (eA x se) TE)).alloc (.cells #[.slice none 0 0, .slice none 0 0, .slice none 0 0, .slice none 0 0] TVn)) (w.heap.size + 1) TE (eA x se) := by
      have := Box.new (w.alloc (.cells (vA v s) TVn)) TE (eA x se)
      rw [World.size_alloc] at this
      exact this.alloc _
    have b2 : Box (((w.alloc (.cells (vA v s) TVn)).alloc (.cells (eA x se) TE)).alloc (.cells #[.slice none 0 0, .slice none 0 0, .slice none 0 0, .slice none 0 0] TVn)) (w.heap.size + 2) TVn #[.slice none 0 0, .slice none 0 0, .slice none 0 0, .slice none 0 0] := by
      have := Box.new ((w.alloc (.cells (vA v s) TVn)).alloc (.cells (eA x se) TE)) TVn #[.slice none 0 0, .slice none 0 0, .slice none 0 0, .slice none 0 0]
      rw [World.size_alloc, World.size_alloc] at this
      exact this
    exact ⟨_, rfl, ⟨hb, b1, b2⟩, ((Box.new w _ _).alloc _).alloc _, by simp⟩
  have HV : Hid (VnAt w v s ∧ EdAt w x se ∧ WfV v ∧ WfE x ∧ v.all.length < 60000) := ⟨h, hx, hw, hwx, hn⟩
  have HCK : Hid (∀ W, Below w.heap.size w W → Calls Tryz.prog 64 #[.agg #[.slice (s.a 0) (v 0).length (s.c 0), .slice (s.a 1) (v 1).length (s.c 1), .slice (s.a 2) (v 2).length (s.c 2), .slice (s.a 3) (v 3).length (s.c 3)]] W fun e w' => e = .returned (.int .i64 ((chkV v : Nat) : Int)) ∧ Below W.heap.size W w') := fun W hb => vcheck_any v s W (HV.out.1.below hb) HV.out.2.2.1 (by have := HV.out.2.2.2.2; omega)
  have HEC : Hid (∀ W, Below w.heap.size w W → Calls Tryz.prog 65 #[.agg #[.int .u64 (x.log : Int), .int .u64 (x.next : Int), .int .u64 (x.last : Int), .slice se.a x.dels.length se.c, .slice se.a' x.adds.length se.c']] W fun e w' => e = .returned (.int .i64 ((x.err : Nat) : Int)) ∧ Below W.heap.size W w') := fun W hb => echeck_any x se W (HV.out.2.1.below hb) HV.out.2.2.2.1
  have hck : Calls Tryz.prog 64 #[.agg #[.slice (s.a 0) (v 0).length (s.c 0), .slice (s.a 1) (v 1).length (s.c 1), .slice (s.a 2) (v 2).length (s.c 2), .slice (s.a 3) (v 3).length (s.c 3)]] (((w.alloc (.cells (vA v s) TVn)).alloc (.cells (eA x se) TE)).alloc (.cells #[.slice none 0 0, .slice none 0 0, .slice none 0 0, .slice none 0 0] TVn)) fun e w' => e = .returned (.int .i64 ((chkV v : Nat) : Int)) ∧ Below W1.heap.size W1 w' := by
    rw [← e1]
    exact HCK.out W1 HW.out.1.below
  clear h hx hw hwx hn e1
  go_enter Tryz.func27, Tryz.ntmps27
  go_wp2_with fail
  refine hck.mono ?_
  rintro _ w2 ⟨rfl, hb2⟩
  have H2 : Hid (KpA w x se w2 ∧ Box w2 w.heap.size TVn (vA v s) ∧ w.heap.size + 3 ≤ w2.heap.size) := ⟨HW.out.1.later hb2, HW.out.2.1.kept (hb2.block _ HW.out.2.1.lt), Nat.le_trans (Nat.le_of_eq HW.out.2.2.symm) hb2.size⟩
  clear hck hb2 HW
  obtain ⟨r0, r1, r2, r3⟩ := (show Box w2 (w.heap.size + 2) TVn (vA noV sv0) from H2.out.1.res).fourV
  obtain ⟨q0, q1, q2, q3⟩ := H2.out.2.1.fourV
  by_cases hV : VOk v
  · rw [chkV_yes hV]
    have HVO : Hid (VOk v) := hV
    clear hV
    obtain ⟨d0, d1, d2, d3, d4⟩ := H2.out.1.ed.five
    go_wp2_with fail
    refine (HEC.out _ H2.out.1.below).mono ?_
    rintro _ w3 ⟨rfl, hb3⟩
    have H3 : Hid (KpA w x se w3 ∧ Box w3 w.heap.size TVn (vA v s) ∧ w.heap.size + 3 ≤ w3.heap.size) := ⟨H2.out.1.later hb3, H2.out.2.1.kept (hb3.block _ H2.out.2.1.lt), Nat.le_trans H2.out.2.2 hb3.size⟩
    clear hb3 H2 r0 r1 r2 r3 q0 q1 q2 q3 d0 d1 d2 d3 d4
    obtain ⟨r0, r1, r2, r3⟩ := (show Box w3 (w.heap.size + 2) TVn (vA noV sv0) from H3.out.1.res).fourV
    obtain ⟨q0, q1, q2, q3⟩ := H3.out.2.1.fourV
    by_cases hE : x.err = 0
    · rw [hE]
      have HEO : Hid (x.err = 0) := hE
      clear hE
      have hlv := levels_any v s w3 (HV.out.1.below H3.out.1.below) HVO.out (by have := HV.out.2.2.2.2; omega)
      go_wp2_with fail
      refine hlv.mono ?_
      rintro _ w4 ⟨b, m0, rfl, hb4, hM4, hT4, hbl4⟩
      have H4 : Hid (KpA w x se w4 ∧ Box w4 w.heap.size TVn (vA v s) ∧ w.heap.size + 3 ≤ w4.heap.size ∧ w.heap.size + 3 ≤ b ∧ MpL w4 b v.all.length m0 ∧ Tells m0 v.all) := ⟨H3.out.1.later hbl4, H3.out.2.1.kept (hbl4.block _ H3.out.2.1.lt), Nat.le_trans H3.out.2.2 hbl4.size, Nat.le_trans H3.out.2.2 hb4, hM4, hT4⟩
      clear hb4 hM4 hT4 hbl4 hlv H3 r0 r1 r2 r3 q0 q1 q2 q3
      obtain ⟨d0, d1, d2, d3, d4⟩ := H4.out.1.ed.five
      have HGS : Hid (GsAt w se.a x.dels.length se.c x.dels ∧ (∀ d ∈ x.dels, d.err = 0) ∧ ∀ d ∈ x.dels, WfU d.num) := by
        obtain ⟨_, _, _, _, _, hde, _⟩ := PE.err_zero HEO.out
        refine ⟨HV.out.2.1.gs, hde, fun d hd => ?_⟩
        obtain ⟨_, _, _, h4⟩ := gErr_zero (hde d hd)
        unfold WfU
        omega
      have hgm := HGS.out.1.row.max
      have hgl := HGS.out.1.row.le
      unfold maxLen at hgm
      go_wp2_with fail
      clear d0 d1 d2 d3 d4
      go_loopw [39] (fun s39 wr => ∃ i : Nat, i ≤ x.dels.length ∧ s39 = .int .i64 (i : Int) ∧ Hid (KpA w x se wr ∧ Box wr w.heap.size TVn (vA v s) ∧ ∃ u m, MpL wr b v.all.length m ∧ Tells m u.all ∧ VOk u ∧ (∀ g ∈ u.all, g ∈ v.all) ∧ delsV v x.dels = delsV u (x.dels.drop i))) (fun s39 _ => x.dels.length - (intOf s39).toNat)
      case atStart => exact ⟨0, Nat.zero_le _, rfl, H4.out.1, H4.out.2.1, v, m0, H4.out.2.2.2.2.1, H4.out.2.2.2.2.2, HVO.out, fun g hg => hg, rfl⟩
      case round =>
        obtain ⟨i, hin, rfl, HI⟩ := hrel
        have hb3 : w.heap.size + 3 ≤ b := H4.out.2.2.2.1
        by_cases hi : i < x.dels.length
        · obtain ⟨gb, go, hix, hglt, hcs⟩ := HGS.out.1.at hi
          obtain ⟨c0, c1⟩ := hcs wr HI.out.1.below
          have HD : Hid ((x.dels[i]).err = 0 ∧ WfU (x.dels[i]).num ∧ ∀ u, delsV u (x.dels.drop i) = (delV u x.dels[i]).bind fun u' => delsV u' (x.dels.drop (i + 1))) := ⟨HGS.out.2.1 _ (List.getElem_mem _), HGS.out.2.2 _ (List.getElem_mem _), fun u => dels_step hi⟩
          clear hcs
          generalize x.dels[i] = d at c0 c1 HD
          obtain ⟨u, m, hM, hT, hU, hS, hE⟩ := HI.out.2.2
          obtain ⟨W1, eW, HW1⟩ : ∃ W1, W1 = wr.alloc (.cells (gA d) TG) ∧ Hid (KpA w x se W1 ∧ Box W1 w.heap.size TVn (vA v s) ∧ MpL W1 b v.all.length m ∧ Tells m u.all ∧ VOk u ∧ (∀ g ∈ u.all, g ∈ v.all) ∧ delsV v x.dels = delsV u (x.dels.drop i)) := by
            have hb : Below wr.heap.size wr (wr.alloc (.cells (gA d) TG)) := (Below.refl _ _).alloc (Nat.le_refl _) _
            exact ⟨_, rfl, HI.out.1.later hb, HI.out.2.1.alloc _, hM.kept (hb.block _ hM.lt), hT, hU, hS, hE⟩
          obtain ⟨lx, q, hq, hlx, hlk⟩ := HW1.out.2.2.1.look HD.out.2.1
          have HQ : Hid (q = (m d.num).isSome ∧ ∀ l, m d.num = some l → lx = l) := ⟨hq, hlx⟩
          rw [eW] at hlk
          have hlk2 : (Instr.lookup 132 (.map (some b)) (.int .u64 (d.num : Int)) true).run Tryz.prog (wr.alloc (.cells #[.int .i64 d.level, .int .u64 (d.num : Int)] TG)) = .ok (.tuple #[.int .i64 lx, .bool q]) (wr.alloc (.cells #[.int .i64 d.level, .int .u64 (d.num : Int)] TG)) := hlk
          clear hq hlx hlk hM hT hU hS hE
          have hgone : (m d.num ≠ some d.level) → Hid (res = (141, noV)) := fun hne => HRV.out.gone HVO.out HEO.out (by
            rw [HW1.out.2.2.2.2.2.2, HD.out.2.2 u, del_no HW1.out.2.2.2.2.1 HW1.out.2.2.2.1 HD.out.1 hne]
            rfl)
          have HGO : Hid ((m d.num ≠ some d.level) → Hid (res = (141, noV))) := hgone
          clear hgone
          cases q with
          | false =>
            have HRES : Hid (res = (141, noV)) := HGO.out (fun e => by have := HQ.out.1; rw [e] at this; cases this)
            have HKW : Hid (KpA w x se W1 ∧ True) := ⟨HW1.out.1, trivial⟩
            have eW2 : Hid (wr.alloc (.cells #[.int .i64 d.level, .int .u64 (d.num : Int)] TG) = W1) := eW.symm
            clear HW1 eW
            go_upto_if 57 with fail
            rw [eW2.out]
            clear hlk2 eW2 c0 c1
            obtain ⟨Z, eZ, z0, z1, z2, z3, HZ⟩ := HKW.out.1.back (.slice none 0 0) (.slice none 0 0) (.slice none 0 0) (.slice none 0 0)
            obtain ⟨r0, r1, r2, r3⟩ := (show Box W1 (w.heap.size + 1 + 1) TVn (vA noV sv0) from HKW.out.1.res).fourV
            have rs : ∀ j, W1.frozen? ⟨w.heap.size + 1 + 1, j, none⟩ = false := fun j => HKW.out.1.res.soft j
            have HF : Hid (Below w.heap.size w Z) := HKW.out.1.below.trans (HZ.out.below (fun k hk => by omega) HKW.out.1.below.size)
            go_wp2
            rw [← eZ]
            refine bodyPost_ret (v := .tuple #[.agg #[.slice none 0 0, .slice none 0 0, .slice none 0 0, .slice none 0 0], .int .i64 141]) (by simp [results, Tryz.results27, go_sem, z0, z1, z2, z3]) rfl ?_
            rw [HRES.out]
            exact ⟨sv0, rfl, OwnV.none _ _, HF.out⟩
          | true =>
            have eW2 : Hid (wr.alloc (.cells #[.int .i64 d.level, .int .u64 (d.num : Int)] TG) = W1) := eW.symm
            by_cases hle : lx = d.level
            · subst hle
              have hMd : m d.num = some d.level := by
                have h1 := HQ.out.1
                cases hm : m d.num with
                | none => rw [hm] at h1; cases h1
                | some l => rw [← HQ.out.2 l hm]
              obtain ⟨u', hu1, hu2, hu3, hu4⟩ := del_yes HW1.out.2.2.2.2.1 HW1.out.2.2.2.1 HD.out.1 hMd
              obtain ⟨w5, hdel, hM5, hc5⟩ := HW1.out.2.2.1.drop HD.out.2.1 4
              have hdel0 : ∀ ty, (Builtin.delete_ #[132, 23] ty #[.map (some b), .int .u64 (d.num : Int)]).run Tryz.prog (wr.alloc (.cells #[.int .i64 d.level, .int .u64 (d.num : Int)] TG)) = .ok (.tuple #[]) w5 := fun ty => by
                rw [eW2.out]
                exact hdel
              have H5 : Hid (KpA w x se w5 ∧ Box w5 w.heap.size TVn (vA v s) ∧ ∃ u m, MpL w5 b v.all.length m ∧ Tells m u.all ∧ VOk u ∧ (∀ g ∈ u.all, g ∈ v.all) ∧ delsV v x.dels = delsV u (x.dels.drop (i + 1))) := by
                refine ⟨HW1.out.1.turned hc5 (fun k hk => by omega), HW1.out.2.1.kept (hc5.block _ HW1.out.2.1.lt (by omega)), u', _, hM5, hu2, hu3, fun g hg => HW1.out.2.2.2.2.2.1 g (hu4 g hg), ?_⟩
                rw [HW1.out.2.2.2.2.2.2, HD.out.2.2 u, hu1]
                rfl
              clear hu1 hu2 hu3 hu4 hdel hM5 hc5 hMd eW2 eW HW1 HGO HQ
              have hlb : (d.level != d.level) = false := by simp
              go_wp2
              go_roundw
              case rel => exact ⟨i + 1, hi, by go_num, H5.out⟩
              case measure => simp only [intOf]; omega
            · have HRES : Hid (res = (141, noV)) := HGO.out (fun e => hle (HQ.out.2 _ e))
              have hlb : (lx != d.level) = true := bne_iff_ne.2 hle
              have HKW : Hid (KpA w x se W1 ∧ True) := ⟨HW1.out.1, trivial⟩
              clear HW1 eW
              go_upto_if 57 with fail
              rw [eW2.out]
              clear hlk2 eW2 c0 c1
              obtain ⟨Z, eZ, z0, z1, z2, z3, HZ⟩ := HKW.out.1.back (.slice none 0 0) (.slice none 0 0) (.slice none 0 0) (.slice none 0 0)
              obtain ⟨r0, r1, r2, r3⟩ := (show Box W1 (w.heap.size + 1 + 1) TVn (vA noV sv0) from HKW.out.1.res).fourV
              have rs : ∀ j, W1.frozen? ⟨w.heap.size + 1 + 1, j, none⟩ = false := fun j => HKW.out.1.res.soft j
              have HF : Hid (Below w.heap.size w Z) := HKW.out.1.below.trans (HZ.out.below (fun k hk => by omega) HKW.out.1.below.size)
              go_wp2
              rw [← eZ]
              refine bodyPost_ret (v := .tuple #[.agg #[.slice none 0 0, .slice none 0 0, .slice none 0 0, .slice none 0 0], .int .i64 141]) (by simp [results, Tryz.results27, go_sem, z0, z1, z2, z3]) rfl ?_
              rw [HRES.out]
              exact ⟨sv0, rfl, OwnV.none _ _, HF.out⟩
        · obtain rfl : i = x.dels.length := by omega
          obtain ⟨u, m, hM, hT, hU, hS, hE⟩ := HI.out.2.2
          rw [List.drop_length] at hE
          have HRA : Hid (res = addsV u x.adds) := HRV.out.adds HVO.out HEO.out u hE
          have HKE : Hid (∀ n, n < 4 → keepF m (v n) = u n) := fun n hn => keep_eq HVO.out hU hS hT hn
          have HUL : Hid (u.all.length ≤ v.all.length) := by
            have h1 : ∀ n, n < 4 → (u n).length ≤ (v n).length := fun n hn => by rw [← HKE.out n hn]; exact List.length_filter_le _ _
            have h2 := h1 0 (by omega)
            have h3 := h1 1 (by omega)
            have h4 := h1 2 (by omega)
            have h5 := h1 3 (by omega)
            unfold Hid PV.all
            simp only [List.length_append]
            omega
          obtain ⟨W5, e5, HW5⟩ : ∃ W5, W5 = wr.alloc (.cells (vA v s) TA4) ∧ Hid (KpA w x se W5 ∧ Box W5 wr.heap.size TA4 (vA v s) ∧ MpL W5 b v.all.length m ∧ Tells m u.all ∧ VOk u ∧ b < wr.heap.size ∧ w.heap.size + 3 ≤ wr.heap.size ∧ VnAt w v s ∧ ∀ n, n < 4 → ∀ f ∈ v n, WfU f.num) := by
            have hb : Below wr.heap.size wr (wr.alloc (.cells (vA v s) TA4)) := (Below.refl _ _).alloc (Nat.le_refl _) _
            exact ⟨_, rfl, HI.out.1.later hb, Box.new _ _ _, hM.kept (hb.block _ hM.lt), hT, hU, hM.lt, Nat.le_trans hb3 (Nat.le_of_lt hM.lt), HV.out.1, fun n hn f hf => HVO.out.wfU (mem_all.2 ⟨n, hn, hf⟩)⟩
          obtain ⟨q0, q1, q2, q3⟩ := HI.out.2.1.fourV
          have HX5 : Hid (wr.alloc (.cells #[.slice (s.a 0) (v 0).length (s.c 0), .slice (s.a 1) (v 1).length (s.c 1), .slice (s.a 2) (v 2).length (s.c 2), .slice (s.a 3) (v 3).length (s.c 3)] TA4) = W5) := e5.symm
          clear hM hT hU hS hE e5
          have hbp : b < wr.heap.size := HW5.out.2.2.2.2.2.1
          have hpw : w.heap.size + 3 ≤ wr.heap.size := HW5.out.2.2.2.2.2.2.1
          have HN6 : Hid (v.all.length < 60000) := HV.out.2.2.2.2
          have hwlt : w.heap.size < wr.heap.size := by omega
          go_upto_block 2 with fail
          clear hwlt
          rw [HX5.out]
          clear HX5 q0 q1 q2 q3
          have HI2 : Hid (x.err = 0) := HEO.out
          clear HI HGS H4 HCK HEC
          obtain ⟨p13, hp13⟩ : ∃ p, p = wr.heap.size := ⟨_, rfl⟩
          rw [← hp13] at HW5 hbp hpw ⊢
          clear hp13
          go_wp2_with fail
          go_loopw [67] (fun s67 wq => ∃ k : Nat, k ≤ 4 ∧ s67 = .int .i64 (k : Int) ∧ Hid (KpA w x se wq ∧ MpL wq b v.all.length m ∧ ∃ (t : SV) (arr : Array Value), Box wq p13 TA4 arr ∧ arr.size = 4 ∧ ∀ j, j < k → arr[j]? = some (.slice (t.a j) (u j).length (t.c j)) ∧ OwnF wq (w.heap.size + 3) (t.a j) (u j).length (t.c j) (u j) ∧ (u j = [] → t.a j = none))) (fun s67 _ => 4 - (intOf s67).toNat)
          case atStart => exact ⟨0, by omega, rfl, HW5.out.1, HW5.out.2.2.1, sv0, vA v s, HW5.out.2.1, rfl, fun j hj => by omega⟩
          case round =>
            obtain ⟨k, hk4, rfl, HK⟩ := hrel
            by_cases hk : k < 4
            · have hkI : (k : Int) < 4 := by omega
              have hidx := idx_arr v s k hk
              have hixp := idxP_arr p13 k hk
              have hkp := kept_any (v k) (s.a k) (v k).length (s.c k) b v.all.length m wr ((HW5.out.2.2.2.2.2.2.2.1 k hk).below HK.out.1.below) HK.out.2.1 (HW5.out.2.2.2.2.2.2.2.2 k hk) (by
                have h1 := accN_le (v := v) hk
                have h2 := HN6.out
                omega)
              rw [HKE.out k hk] at hkp
              go_wp2_with fail
              refine hkp.mono ?_
              rintro _ w6 ⟨a', c', rfl, ho6, hb6, he6⟩
              obtain ⟨hKp, hMp, t, arr, hBx, hsz, hall⟩ := HK.out
              have hBx6 := hBx.kept (hb6.block _ hBx.lt)
              obtain ⟨old, hcell⟩ : ∃ old, w6.cell? ⟨p13, k, none⟩ = some old := ⟨arr[k]'(by omega), by rw [hBx6.cell]; simp [hsz, hk]⟩
              have hsoft : w6.frozen? ⟨p13, k, none⟩ = false := hBx6.soft k
              have H6 : Hid (∃ (t : SV) (arr : Array Value), Box (w6.setCell ⟨p13, k, none⟩ (.slice a' (u k).length c')) p13 TA4 arr ∧ arr.size = 4 ∧ ∀ j, j < k + 1 → arr[j]? = some (.slice (t.a j) (u j).length (t.c j)) ∧ OwnF (w6.setCell ⟨p13, k, none⟩ (.slice a' (u k).length c')) (w.heap.size + 3) (t.a j) (u j).length (t.c j) (u j) ∧ (u j = [] → t.a j = none)) := by
                have hkeep : ∀ {a : Option Addr} {n c : Nat} {l : List PF}, OwnF w6 (w.heap.size + 3) a n c l → OwnF (w6.setCell ⟨p13, k, none⟩ (.slice a' (u k).length c')) (w.heap.size + 3) a n c l := fun {a} {n} {c} {l} ho => ho.kept (fun g hg => Below.heap_setCell _ _ _ _ (tag_ne (ho.tag hg) hBx6.tag (by decide)))
                refine ⟨⟨fun j => if j = k then a' else t.a j, fun j => if j = k then c' else t.c j⟩, _, hBx6.set k _, by simp [hsz], fun j hj => ?_⟩
                by_cases ej : j = k
                · subst ej
                  simp only [if_true]
                  refine ⟨by simp [hsz, hk], hkeep (ho6.less ?_), he6⟩
                  have := hKp.below.size
                  have := hBx.lt
                  omega
                · simp only [if_neg ej]
                  have hj' := hall j (by omega)
                  refine ⟨?_, hkeep (hj'.2.1.below hb6), hj'.2.2⟩
                  rw [Array.getElem?_setIfInBounds_ne (fun e => ej e.symm)]
                  exact hj'.1
              have H7 : Hid (KpA w x se (w6.setCell ⟨p13, k, none⟩ (.slice a' (u k).length c')) ∧ MpL (w6.setCell ⟨p13, k, none⟩ (.slice a' (u k).length c')) b v.all.length m) := by
                have hc : Chg (fun g => g = p13) w6 (w6.setCell ⟨p13, k, none⟩ (.slice a' (u k).length c')) := (Chg.refl (fun g => g = p13) w6).set (fun _ => rfl) _ _
                refine ⟨(hKp.later hb6).turned hc (fun g hg => by omega), ?_⟩
                have hm6 := hMp.kept (hb6.block _ hMp.lt)
                exact hm6.kept (hc.block _ hm6.lt (by omega))
              clear hKp hMp hBx hsz hall hBx6 ho6 hb6 he6 hkp
              go_wp2
              go_roundw
              case rel => exact ⟨k + 1, hk, by go_num, H7.out.1, H7.out.2, H6.out⟩
              case measure => simp only [intOf]; omega
            · obtain rfl : k = 4 := by omega
              have H8 : Hid (KpA w x se wr ∧ ∃ (u' : PV) (t : SV) (m : Nat → Option Int), Box wr p13 TA4 (vA u' t) ∧ OwnV wr (w.heap.size + 3) u' t ∧ (∀ n, n < 4 → u' n = [] → t.a n = none) ∧ MpL wr b (v.all.length + 0) m ∧ Tells m u'.all ∧ VOk u' ∧ res = addsV u' (x.adds.drop 0) ∧ u'.all.length ≤ v.all.length + 0) := by
                obtain ⟨hKp, hMp, t, arr, hBx, hsz, hall⟩ := HK.out
                have harr := arr_four hsz (fun j hj => (hall j hj).1)
                subst harr
                exact ⟨hKp, u, t, m, hBx, fun n hn => (hall n hn).2.1, fun n hn => (hall n hn).2.2, hMp, HW5.out.2.2.2.1, HW5.out.2.2.2.2.1, HRA.out, HUL.out⟩
              obtain ⟨d0, d1, d2, d3, d4⟩ := HK.out.1.ed.five
              have HFS : Hid (FlAt w se.a' x.adds.length se.c' x.adds ∧ (∀ f ∈ x.adds, f.err = 0) ∧ x.adds.length ≤ 100) := by
                obtain ⟨_, h100, _, _, _, _, hae⟩ := PE.err_zero HI2.out
                exact ⟨HV.out.2.1.fs, hae, h100⟩
              have hfm := HFS.out.1.row.max
              have hfl := HFS.out.1.row.le
              unfold maxLen at hfm
              clear HK HW5 HKE HUL HRA
              go_wp2_with fail
              clear d0 d1 d2 d3 d4
              go_loopw [80] (fun s80 wq => ∃ i : Nat, i ≤ x.adds.length ∧ s80 = .int .i64 (i : Int) ∧ Hid (KpA w x se wq ∧ ∃ (u : PV) (t : SV) (m : Nat → Option Int), Box wq p13 TA4 (vA u t) ∧ OwnV wq (w.heap.size + 3) u t ∧ (∀ n, n < 4 → u n = [] → t.a n = none) ∧ MpL wq b (v.all.length + i) m ∧ Tells m u.all ∧ VOk u ∧ res = addsV u (x.adds.drop i) ∧ u.all.length ≤ v.all.length + i)) (fun s80 _ => x.adds.length - (intOf s80).toNat)
              case atStart => exact ⟨0, Nat.zero_le _, rfl, H8.out⟩
              case round =>
                clear H8
                obtain ⟨i, hin, rfl, HI⟩ := hrel
                by_cases hi : i < x.adds.length
                · obtain ⟨gb, go, hix, hglt, hcs⟩ := HFS.out.1.at hi
                  obtain ⟨c0, c1, c2, c3, c4, c5, c6, c7, c8⟩ := hcs wr HI.out.1.below
                  have HD : Hid ((x.adds[i]).err = 0 ∧ ∀ u, addsV u (x.adds.drop i) = if addE u x.adds[i] ≠ 0 then (addE u x.adds[i], noV) else addsV (addV u x.adds[i]) (x.adds.drop (i + 1))) := ⟨HFS.out.2.1 _ (List.getElem_mem _), fun u => adds_step hi⟩
                  have hi100 : i < 100 := by have := HFS.out.2.2; omega
                  clear hcs
                  generalize x.adds[i] = f at c0 c1 c2 c3 c4 c5 c6 c7 c8 HD
                  obtain ⟨hKp, u, t, m, hBx, hOw, hNl, hM, hT, hU, hR, hLn⟩ := HI.out
                  have hWf : WfU f.num := by
                    obtain ⟨hg, _⟩ := PF.err_zero HD.out.1
                    obtain ⟨_, _, _, h4⟩ := gErr_zero hg
                    unfold WfU
                    omega
                  obtain ⟨W1, eW, HW1⟩ : ∃ W1, W1 = wr.alloc (.cells (fA f) TF) ∧ Hid (KpA w x se W1 ∧ Box W1 p13 TA4 (vA u t) ∧ OwnV W1 (w.heap.size + 3) u t ∧ (∀ n, n < 4 → u n = [] → t.a n = none) ∧ MpL W1 b (v.all.length + i) m ∧ Tells m u.all ∧ VOk u ∧ res = addsV u (x.adds.drop i) ∧ u.all.length ≤ v.all.length + i ∧ Box W1 wr.heap.size TF (fA f) ∧ ∀ n, n < 4 → ∀ k, blkOf (t.a n) = some k → k < wr.heap.size) := by
                    have hb : Below wr.heap.size wr (wr.alloc (.cells (fA f) TF)) := (Below.refl _ _).alloc (Nat.le_refl _) _
                    exact ⟨_, rfl, hKp.later hb, hBx.alloc _, hOw.below hb, hNl, hM.kept (hb.block _ hM.lt), hT, hU, hR, hLn, Box.new _ _ _, fun n hn k hk => tag_lt ((hOw n hn).tag hk)⟩
                  obtain ⟨lx, q, hq, _, hlk⟩ := HW1.out.2.2.2.2.1.look hWf
                  have HQ : Hid (q = (m f.num).isSome) := hq
                  rw [eW] at hlk
                  have hlk2 : (Instr.lookup 132 (.map (some b)) (.int .u64 (f.num : Int)) true).run Tryz.prog (wr.alloc (.cells #[.int .i64 f.level, .int .u64 (f.num : Int), .int .i64 f.size, .string f.small.user, .int .u64 (f.small.seq : Int), .int .i64 f.small.kind, .string f.large.user, .int .u64 (f.large.seq : Int), .int .i64 f.large.kind] TF)) = .ok (.tuple #[.int .i64 lx, .bool q]) (wr.alloc (.cells #[.int .i64 f.level, .int .u64 (f.num : Int), .int .i64 f.size, .string f.small.user, .int .u64 (f.small.seq : Int), .int .i64 f.small.kind, .string f.large.user, .int .u64 (f.large.seq : Int), .int .i64 f.large.kind] TF)) := hlk
                  have eW2 : Hid (wr.alloc (.cells #[.int .i64 f.level, .int .u64 (f.num : Int), .int .i64 f.size, .string f.small.user, .int .u64 (f.small.seq : Int), .int .i64 f.small.kind, .string f.large.user, .int .u64 (f.large.seq : Int), .int .i64 f.large.kind] TF) = W1) := eW.symm
                  have HWF : Hid (WfU f.num) := hWf
                  clear hq hlk hKp hBx hOw hNl hM hT hU hR hLn eW HI hWf
                  go_upto_if 91 with fail
                  rw [eW2.out]
                  clear hlk2 eW2 c0 c1 c2 c3 c4 c5 c6 c7 c8
                  cases q with
                  | true =>
                    have HRES : Hid (res = (142, noV)) := by
                      unfold Hid
                      rw [HW1.out.2.2.2.2.2.2.2.1, HD.out.2 u, add_same HW1.out.2.2.2.2.2.1 HQ.out.symm]
                      rfl
                    obtain ⟨Z, eZ, z0, z1, z2, z3, HZ⟩ := HW1.out.1.back (.slice none 0 0) (.slice none 0 0) (.slice none 0 0) (.slice none 0 0)
                    obtain ⟨r0, r1, r2, r3⟩ := (show Box W1 (w.heap.size + 1 + 1) TVn (vA noV sv0) from HW1.out.1.res).fourV
                    have rs : ∀ j, W1.frozen? ⟨w.heap.size + 1 + 1, j, none⟩ = false := fun j => HW1.out.1.res.soft j
                    have HF : Hid (Below w.heap.size w Z) := HW1.out.1.below.trans (HZ.out.below (fun k hk => by omega) HW1.out.1.below.size)
                    go_wp2
                    rw [← eZ]
                    refine bodyPost_ret (v := .tuple #[.agg #[.slice none 0 0, .slice none 0 0, .slice none 0 0, .slice none 0 0], .int .i64 142]) (by simp [results, Tryz.results27, go_sem, z0, z1, z2, z3]) rfl ?_
                    rw [HRES.out]
                    exact ⟨sv0, rfl, OwnV.none _ _, HF.out⟩
                  | false =>
                    obtain ⟨hn4, hfl4⟩ := lev_nat HD.out.1
                    obtain ⟨n, hnn⟩ : ∃ n, n = f.level.toNat := ⟨_, rfl⟩
                    rw [← hnn] at hn4 hfl4
                    have HNN : Hid (f.level.toNat = n ∧ f.level = (n : Int)) := ⟨hnn.symm, hfl4⟩
                    have hln : (u n).length < 65536 := by
                      have h1 := accN_le (v := u) hn4
                      have h2 := HW1.out.2.2.2.2.2.2.2.2.1
                      have h3 := HN6.out
                      omega
                    have hld : Calls Tryz.prog 68 #[.slice (t.a n) (u n).length (t.c n), .agg #[.int .i64 f.level, .int .u64 (f.num : Int), .int .i64 f.size, .string f.small.user, .int .u64 (f.small.seq : Int), .int .i64 f.small.kind, .string f.large.user, .int .u64 (f.large.seq : Int), .int .i64 f.large.kind]] W1.drew fun e w' => ∃ (a2 : Option Addr) (k2 c2 : Nat) (q : Bool), e = .returned (.tuple #[.slice a2 k2 c2, .bool q]) ∧ Hid (Chg (fun k => blkOf (t.a n) = some k) W1.drew w' ∧ (q = true → k2 = (u n).length + 1 ∧ OwnF w' (w.heap.size + 3) a2 ((u n).length + 1) c2 (insF n f (u n)) ∧ ∀ g ∈ u n, ahead n f g ∨ ahead n g f) ∧ (q = false → ¬ ∀ g ∈ u n, ahead n f g ∨ ahead n g f)) ∧ Hid (Box w' wr.heap.size TF (fA f) ∧ Box w' p13 TA4 (vA u t)) ∧ F9 w' wr.heap.size 0 f ∧ w'.cell? ⟨p13, n, none⟩ = some (.slice (t.a n) (u n).length (t.c n)) := by
                      have hbd : Below W1.heap.size W1 W1.drew := (Below.refl _ _).drew
                      refine (laid_any (w := W1.drew) (B := w.heap.size + 3) (n := n) (l := u n) (f := f) ((HW1.out.2.2.1 n hn4).below hbd) (HW1.out.2.2.2.2.2.2.1.lv n hn4) HD.out.1 hfl4 ?_ hln).mono ?_
                      · have h1 := HW1.out.2.1.lt
                        show w.heap.size + 3 ≤ W1.heap.size
                        omega
                      · rintro e w' ⟨hch, hor⟩
                        have hB1 : Box w' wr.heap.size TF (fA f) := (show Box W1.drew wr.heap.size TF (fA f) from HW1.out.2.2.2.2.2.2.2.2.2.1).kept (hch.block _ HW1.out.2.2.2.2.2.2.2.2.2.1.lt (fun hk => by
                          have := HW1.out.2.2.2.2.2.2.2.2.2.2 n hn4 _ hk
                          omega))
                        have hB2 : Box w' p13 TA4 (vA u t) := (show Box W1.drew p13 TA4 (vA u t) from HW1.out.2.1).kept (hch.block _ HW1.out.2.1.lt (fun hk => tag_ne ((HW1.out.2.2.1 n hn4).tag hk) HW1.out.2.1.tag (by decide) rfl))
                        have hB3 : w'.cell? ⟨p13, n, none⟩ = some (.slice (t.a n) (u n).length (t.c n)) := by
                          rw [hB2.cell]
                          exact four (P := fun n => (vA u t)[n]? = some (.slice (t.a n) (u n).length (t.c n))) hn4 rfl rfl rfl rfl
                        rcases hor with ⟨a', c', rfl, ho, hc⟩ | ⟨rfl, hno⟩
                        · exact ⟨a', _, c', true, rfl, ⟨hch, fun _ => ⟨rfl, ho, hc⟩, fun h => (by cases h)⟩, ⟨hB1, hB2⟩, hB1.nine, hB3⟩
                        · exact ⟨none, 0, 0, false, rfl, ⟨hch, fun h => (by cases h), fun _ => hno⟩, ⟨hB1, hB2⟩, hB1.nine, hB3⟩
                    have hixp : ∀ W : World, (Instr.indexAt 42 (.pointer (some ⟨p13, 0, none⟩)) (.int .i64 f.level)).run Tryz.prog W = .ok (.pointer (some ⟨p13, n, none⟩)) W := fun W => by
                      rw [hfl4]
                      exact idxP_arr p13 n hn4 W
                    have y0 : W1.drew.cell? ⟨p13, n, none⟩ = some (.slice (t.a n) (u n).length (t.c n)) := by
                      rw [show W1.drew.cell? ⟨p13, n, none⟩ = W1.cell? ⟨p13, n, none⟩ from rfl, HW1.out.2.1.cell]
                      exact four (P := fun n => (vA u t)[n]? = some (.slice (t.a n) (u n).length (t.c n))) hn4 rfl rfl rfl rfl
                    obtain ⟨x0, x1, x2, x3, x4, x5, x6, x7, x8⟩ := (show Box W1.drew wr.heap.size TF (fA f) from HW1.out.2.2.2.2.2.2.2.2.2.1).nine
                    simp only [Nat.zero_add] at x1 x2 x3 x4 x5 x6 x7 x8
                    clear hnn hfl4
                    go_upto_region 28 with fail
                    go_region_held3 (fun V => V.cell? ⟨p13, n, none⟩ = some (.slice (t.a n) (u n).length (t.c n)) ∧ V.cell? ⟨wr.heap.size, 0, none⟩ = some (.int .i64 f.level) ∧ V.cell? ⟨wr.heap.size, 1, none⟩ = some (.int .u64 (f.num : Int)) ∧ V.cell? ⟨wr.heap.size, 2, none⟩ = some (.int .i64 f.size) ∧ V.cell? ⟨wr.heap.size, 3, none⟩ = some (.string f.small.user) ∧ V.cell? ⟨wr.heap.size, 4, none⟩ = some (.int .u64 (f.small.seq : Int)) ∧ V.cell? ⟨wr.heap.size, 5, none⟩ = some (.int .i64 f.small.kind) ∧ V.cell? ⟨wr.heap.size, 6, none⟩ = some (.string f.large.user) ∧ V.cell? ⟨wr.heap.size, 7, none⟩ = some (.int .u64 (f.large.seq : Int)) ∧ V.cell? ⟨wr.heap.size, 8, none⟩ = some (.int .i64 f.large.kind)) (first | exact ⟨y0, x0, x1, x2, x3, x4, x5, x6, x7, x8⟩ | go_keep)
                      (first | (go_at_call 68; refine hld.mono ?_; rintro _ w8 ⟨a2, k2, c2, q2, rfl, H8, HB8, n8, y8⟩; clear x0 x1 x2 x3 x4 x5 x6 x7 x8 y0; obtain ⟨x0, x1, x2, x3, x4, x5, x6, x7, x8⟩ := n8; simp only [Nat.zero_add] at x1 x2 x3 x4 x5 x6 x7 x8; have y0 := y8; clear y8))
                    have hHK : Hid (KpA w x se w8 ∧ True) := ⟨(show KpA w x se W1.drew from ⟨HW1.out.1.below.drew, HW1.out.1.ed, HW1.out.1.res⟩).turned H8.out.1 (fun k hk => (HW1.out.2.2.1 n hn4).ge hk), trivial⟩
                    cases q2 with
                    | false =>
                      have HRES : Hid (res = (143, noV)) := by
                        have hov := add_over HW1.out.2.2.2.2.2.2.1 HW1.out.2.2.2.2.2.1 HD.out.1 HQ.out.symm (by rw [HNN.out.1]; exact H8.out.2.2 rfl)
                        unfold Hid
                        rw [HW1.out.2.2.2.2.2.2.2.1, HD.out.2 u, hov]
                        rfl
                      clear x0 x1 x2 x3 x4 x5 x6 x7 x8 y0 hixp hld
                      obtain ⟨Z, eZ, z0, z1, z2, z3, HZ⟩ := hHK.out.1.back (.slice none 0 0) (.slice none 0 0) (.slice none 0 0) (.slice none 0 0)
                      obtain ⟨r0, r1, r2, r3⟩ := (show Box w8 (w.heap.size + 1 + 1) TVn (vA noV sv0) from hHK.out.1.res).fourV
                      have rs : ∀ j, w8.frozen? ⟨w.heap.size + 1 + 1, j, none⟩ = false := fun j => hHK.out.1.res.soft j
                      have HF : Hid (Below w.heap.size w Z) := hHK.out.1.below.trans (HZ.out.below (fun k hk => by omega) hHK.out.1.below.size)
                      go_wp2
                      rw [← eZ]
                      refine bodyPost_ret (v := .tuple #[.agg #[.slice none 0 0, .slice none 0 0, .slice none 0 0, .slice none 0 0], .int .i64 143]) (by simp [results, Tryz.results27, go_sem, z0, z1, z2, z3]) rfl ?_
                      rw [HRES.out]
                      exact ⟨sv0, rfl, OwnV.none _ _, HF.out⟩
                    | true =>
                      obtain ⟨hk2, ho8, hcmp⟩ := H8.out.2.1 rfl
                      subst hk2
                      have hadd := add_zero HW1.out.2.2.2.2.2.2.1 HW1.out.2.2.2.2.2.1 HD.out.1 HQ.out.symm (by rw [HNN.out.1]; exact hcmp)
                      have hM8 : MpL w8 b (v.all.length + i) m := HW1.out.2.2.2.2.1.kept (H8.out.1.block _ HW1.out.2.2.2.2.1.lt (fun hk => tag_ne ((HW1.out.2.2.1 n hn4).tag hk) HW1.out.2.2.2.2.1.tag (by decide) rfl))
                      have hbp2 : b ≠ p13 := tag_ne hM8.tag HB8.out.2.tag (by decide)
                      have hM9 : MpL (w8.setCell ⟨p13, n, none⟩ (.slice a2 ((u n).length + 1) c2)) b (v.all.length + i) m := hM8.kept (Below.heap_setCell _ _ _ _ hbp2)
                      obtain ⟨w10, hup, hM10, hc10⟩ := hM9.store HWF.out f.level (by have := HN6.out; omega)
                      have hsoft : w8.frozen? ⟨p13, n, none⟩ = false := HB8.out.2.soft n
                      have hpn : p13 ≠ wr.heap.size := tag_ne HB8.out.2.tag HB8.out.1.tag (by decide)
                      have H10 : Hid (KpA w x se w10 ∧ ∃ (u : PV) (t : SV) (m : Nat → Option Int), Box w10 p13 TA4 (vA u t) ∧ OwnV w10 (w.heap.size + 3) u t ∧ (∀ n, n < 4 → u n = [] → t.a n = none) ∧ MpL w10 b (v.all.length + (i + 1)) m ∧ Tells m u.all ∧ VOk u ∧ res = addsV u (x.adds.drop (i + 1)) ∧ u.all.length ≤ v.all.length + (i + 1)) := by
                        have hc9 : Chg (fun g => g = p13) w8 (w8.setCell ⟨p13, n, none⟩ (.slice a2 ((u n).length + 1) c2)) := (Chg.refl (fun g => g = p13) w8).set (fun _ => rfl) _ _
                        have hK10 : KpA w x se w10 := (hHK.out.1.turned hc9 (fun g hg => by omega)).turned hc10 (fun g hg => by omega)
                        have hkeep : ∀ {a : Option Addr} {n' c : Nat} {l : List PF}, OwnF w8 (w.heap.size + 3) a n' c l → OwnF w10 (w.heap.size + 3) a n' c l := fun {a} {n'} {c} {l} ho => by
                          have h9 : OwnF (w8.setCell ⟨p13, n, none⟩ (.slice a2 ((u n).length + 1) c2)) (w.heap.size + 3) a n' c l := ho.kept (fun g hg => Below.heap_setCell _ _ _ _ (tag_ne (ho.tag hg) HB8.out.2.tag (by decide)))
                          refine h9.kept (fun g hg => hc10.block _ (tag_lt (h9.tag hg)) (fun e => ?_))
                          exact tag_ne (h9.tag hg) hM9.tag (by decide) e
                        have hu : addV u f = u.upd n (insF n f (u n)) := by unfold addV; rw [HNN.out.1]
                        have hlen : (insF n f (u n)).length = (u n).length + 1 := by rw [(insF_perm (n := n) (f := f) (l := u n)).length_eq]; rfl
                        have hbx9 : Box (w8.setCell ⟨p13, n, none⟩ (.slice a2 ((u n).length + 1) c2)) p13 TA4 _ := HB8.out.2.set n _
                        have hbx10 := hbx9.kept (hc10.block _ hbx9.lt (fun e => hbp2 e.symm))
                        refine ⟨hK10, addV u f, ⟨fun j => if j = n then a2 else t.a j, fun j => if j = n then c2 else t.c j⟩, _, ?_, ?_, ?_, hM10, hadd.2.2, hadd.2.1, ?_, ?_⟩
                        · have e : ((vA u t).setIfInBounds n (.slice a2 ((u n).length + 1) c2)) = vA (addV u f) ⟨fun j => if j = n then a2 else t.a j, fun j => if j = n then c2 else t.c j⟩ := by
                            refine arr_four (by simp [vA]) (fun j hj => ?_)
                            by_cases ej : j = n
                            · subst ej
                              rw [Array.getElem?_setIfInBounds_self_of_lt (by simp [vA]; omega), hu, PV.upd_same, hlen]
                              simp
                            · rw [Array.getElem?_setIfInBounds_ne (fun e => ej e.symm), hu, PV.upd_other _ _ ej]
                              simp only [if_neg ej]
                              exact four (P := fun j => (vA u t)[j]? = some (.slice (t.a j) (u j).length (t.c j))) hj rfl rfl rfl rfl
                          exact hbx10.eq e
                        · intro j hj
                          by_cases ej : j = n
                          · subst ej
                            rw [hu, PV.upd_same, hlen]
                            simp only [if_true]
                            exact hkeep ho8
                          · rw [hu, PV.upd_other _ _ ej]
                            simp only [if_neg ej]
                            have h1 := HW1.out.2.2.1 j hj
                            refine hkeep (h1.kept (fun g hg => H8.out.1.block _ (tag_lt (h1.tag hg)) (fun hgn => ?_)))
                            by_cases e1 : u j = []
                            · rw [HW1.out.2.2.2.1 j hj e1] at hg
                              cases hg
                            · by_cases e2 : u n = []
                              · rw [HW1.out.2.2.2.1 n hn4 e2] at hgn
                                cases hgn
                              · exact rows_apart (i := (j : Int)) (j := (n : Int)) h1 (HW1.out.2.2.1 n hn4) (fun f hf => (HW1.out.2.2.2.2.2.2.1.level hj hf).2) (fun f hf => (HW1.out.2.2.2.2.2.2.1.level hn4 hf).2) (by omega) e1 e2 g hg hgn
                        · intro j hj he
                          by_cases ej : j = n
                          · subst ej
                            rw [hu, PV.upd_same] at he
                            rw [he] at hlen
                            simp at hlen
                          · rw [hu, PV.upd_other _ _ ej] at he
                            simp only [if_neg ej]
                            exact HW1.out.2.2.2.1 j hj he
                        · rw [HW1.out.2.2.2.2.2.2.2.1, HD.out.2 u, hadd.1]
                          rfl
                        · rw [addV_len HD.out.1]
                          have := HW1.out.2.2.2.2.2.2.2.2.1
                          omega
                      clear hadd hM8 hM9 hM10 hc10 ho8 hcmp hld
                      go_wp2
                      go_roundw
                      case rel =>
                        obtain ⟨z1, z2, z3, z4, y1, y2, y3, y4, y5, y6, y7, y8⟩ := H10.out
                        exact ⟨u5, _, _, _, _, _, _, ⟨i + 1, hi, by go_num, z1, z2, z3, y1, y2, y3, z4, y4, y5, y6, y7, y8⟩, rfl, rfl, rfl, rfl, rfl, rfl, rfl⟩
                      case measure => simp only [intOf]; omega
                · obtain rfl : i = x.adds.length := by omega
                  obtain ⟨hKp, u, t, m, hBx, hOw, _, _, _, _, hR, _⟩ := HI.out
                  rw [List.drop_length] at hR
                  have HKW : Hid (KpA w x se wr ∧ Box wr p13 TA4 (vA u t) ∧ OwnV wr (w.heap.size + 3) u t ∧ res = (0, u)) := ⟨hKp, hBx, hOw, hR⟩
                  clear hKp hBx hOw hR
                  obtain ⟨Z, eZ, z0, z1, z2, z3, HZ⟩ := HKW.out.1.back (.slice (t.a 0) (u 0).length (t.c 0)) (.slice (t.a 1) (u 1).length (t.c 1)) (.slice (t.a 2) (u 2).length (t.c 2)) (.slice (t.a 3) (u 3).length (t.c 3))
                  obtain ⟨r0, r1, r2, r3⟩ := (show Box wr (w.heap.size + 1 + 1) TVn (vA noV sv0) from HKW.out.1.res).fourV
                  obtain ⟨q0, q1, q2, q3⟩ := HKW.out.2.1.fourV
                  have rs : ∀ j, wr.frozen? ⟨w.heap.size + 1 + 1, j, none⟩ = false := fun j => HKW.out.1.res.soft j
                  have HF : Hid (Below w.heap.size w Z ∧ OwnV Z w.heap.size u t) := by
                    refine ⟨HKW.out.1.below.trans (HZ.out.below (fun k hk => by omega) HKW.out.1.below.size), fun n hn => ?_⟩
                    have h1 := HKW.out.2.2.1 n hn
                    refine (h1.kept (fun g hg => HZ.out.block _ (tag_lt (h1.tag hg)) (fun e => ?_))).less (by omega)
                    have := h1.ge hg
                    omega
                  go_wp2
                  rw [← eZ]
                  refine bodyPost_ret (v := .tuple #[.agg #[.slice (t.a 0) (u 0).length (t.c 0), .slice (t.a 1) (u 1).length (t.c 1), .slice (t.a 2) (u 2).length (t.c 2), .slice (t.a 3) (u 3).length (t.c 3)], .int .i64 0]) (by simp [results, Tryz.results27, go_sem, z0, z1, z2, z3]) rfl ?_
                  rw [HKW.out.2.2.2]
                  exact ⟨t, rfl, HF.out.2, HF.out.1⟩
    · have HEO : Hid (res = (x.err, noV)) := HRV.out.err HVO.out hE
      have heb : (((x.err : Nat) : Int) != 0) = true := by simp; omega
      clear r0 r1 r2 r3
      generalize x.err = xe at heb HEO
      obtain ⟨Z, eZ, z0, z1, z2, z3, HZ⟩ := H3.out.1.back (.slice none 0 0) (.slice none 0 0) (.slice none 0 0) (.slice none 0 0)
      obtain ⟨r0, r1, r2, r3⟩ := (show Box w3 (w.heap.size + 1 + 1) TVn (vA noV sv0) from H3.out.1.res).fourV
      have rs : ∀ j, w3.frozen? ⟨w.heap.size + 1 + 1, j, none⟩ = false := fun j => H3.out.1.res.soft j
      have HF : Hid (Below w.heap.size w Z) := H3.out.1.below.trans (HZ.out.below (fun k hk => by omega) H3.out.1.below.size)
      go_wp2
      rw [← eZ]
      refine bodyPost_ret (v := .tuple #[.agg #[.slice none 0 0, .slice none 0 0, .slice none 0 0, .slice none 0 0], .int .i64 (xe : Int)]) (by simp [results, Tryz.results27, go_sem, z0, z1, z2, z3]) rfl ?_
      rw [HEO.out]
      exact ⟨sv0, rfl, OwnV.none _ _, HF.out⟩
  · rw [chkV_no hV]
    have HF0 : Hid (res = (140, noV)) := HRV.out.form hV
    clear r0 r1 r2 r3
    obtain ⟨Z, eZ, z0, z1, z2, z3, HZ⟩ := H2.out.1.back (.slice none 0 0) (.slice none 0 0) (.slice none 0 0) (.slice none 0 0)
    obtain ⟨r0, r1, r2, r3⟩ := (show Box w2 (w.heap.size + 1 + 1) TVn (vA noV sv0) from H2.out.1.res).fourV
    have rs : ∀ j, w2.frozen? ⟨w.heap.size + 1 + 1, j, none⟩ = false := fun j => H2.out.1.res.soft j
    have HF : Hid (Below w.heap.size w Z) := H2.out.1.below.trans (HZ.out.below (fun k hk => by omega) H2.out.1.below.size)
    go_wp2
    rw [← eZ]
    refine bodyPost_ret (v := .tuple #[.agg #[.slice none 0 0, .slice none 0 0, .slice none 0 0, .slice none 0 0], .int .i64 140]) (by simp [results, Tryz.results27, go_sem, z0, z1, z2, z3]) rfl ?_
    rw [HF0.out]
    exact ⟨sv0, rfl, OwnV.none _ _, HF.out⟩
end Go.Proofs.YtmlfbihlbiikeaaGreatDoor
