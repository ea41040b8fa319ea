/- Merge's iterator: Next, Prev, At. -/
import Derived.Test.YtfijibengmgegaaM16MgM
namespace Go.Proofs.Ytfijibengmgegaa
open Go.RowKit
set_option linter.unusedVariables false
set_option linter.unusedSimpArgs false
section
variable {W W' w : World} {R RL : Nat → Prop} {p B : Nat} {la : Option Addr} {lc : Nat} {L : List (List KV)} {x last : PlL} {b : Bool} {hv : Value} {i hp : Nat} {up : Bool} {pa : Option Addr} {pc : Nat} {ps : List PlL} {v : Nat → Nat} {o : Option Nat}
/-- Heads that it had. -/
theorem ItP.own {w1 : World} (h : ItP w1 R p hp la lc L pa o W') (hb : Below w.heap.size w w1) (hp1 : R p) (h1 : R hp) (h2 : ∀ k, blkOf pa = some k → R k) : MgPost Mg16 R p L o w W' := by
  obtain ⟨R', g1, g2, g3, g4⟩ := h
  refine ⟨R', g1, fun k hk => ?_, (Chg.of (R := R) hb).andThen g3 fun k hk hkk => ?_⟩
  · rcases g2 k hk with e | e | e
    · exact .inl e
    · exact .inl (e ▸ h1)
    · exact .inl (h2 k e)
  · rcases hkk with e | e | e
    · exact e ▸ hp1
    · exact e ▸ h1
    · exact h2 k e
/-- Heads that were just laid, stored. -/
theorem ItP.laid {w1 : World} {u : Value} (h : ItP (w1.setCell ⟨p, 4, none⟩ u) R p hp la lc L pa o W') (hb : Below w.heap.size w w1) (hp1 : R p) (h1 : w.heap.size ≤ hp) (h2 : ∀ k, blkOf pa = some k → w.heap.size ≤ k) : MgPost Mg16 R p L o w W' := by
  obtain ⟨R', g1, g2, g3, g4⟩ := h
  refine ⟨R', g1, fun k hk => ?_, (((Chg.of (R := R) hb).set (p := p) (fun _ => hp1) 4 u)).andThen g3 fun k hk hkk => ?_⟩
  · rcases g2 k hk with e | e | e
    · exact .inl e
    · exact .inr (e ▸ h1)
    · exact .inr (h2 k e)
  · rcases hkk with e | e | e
    · exact e ▸ hp1
    · omega
    · have := h2 k e; omega
set_option maxRecDepth 100000 in
set_option maxHeartbeats 2000000 in
theorem next_16 (h : Mg16 w R p L o) : Calls Try.prog 19 #[at_ p] w fun e w' => e = .returned (.tuple #[]) ∧ MgPost Mg16 R p L (goP (allL L) 4 kvZ.1 o) w w' := by
  have hmf : ∀ (fn : Fn) (first cap : Array Value) (w : World), (Instr.makeFunc fn first cap).run Try.prog w = .ok (.func fn first cap) w := fun _ _ _ _ => rfl
  have HM := h
  obtain ⟨RL, la, lc, x, hv, hit, hso⟩ := h
  have x0 := hit.box.cell 0
  have x1 := hit.box.cell 1
  have x2 := hit.box.cell 2
  have x3 := hit.box.cell 3
  have x4 := hit.box.cell 4
  simp only [List.getElem?_toArray, List.getElem?_cons_succ, List.getElem?_cons_zero] at x0 x1 x2 x3 x4
  cases o with
  | none =>
    have HF : Hid (MgPost Mg16 R p L (goP (allL L) 4 kvZ.1 none) w w) := ⟨R, HM, fun k hk => .inl hk, Chg.refl _ _⟩
    have x3 : w.cell? ⟨p, 3, none⟩ = some (.bool false) := x3
    clear HM hit hso
    go_enter Try.func19, Try.ntmps19
    go_wp2
    go_returns
    exact ⟨rfl, HF.out⟩
  | some i =>
    obtain ⟨up, hp, pa, pc, ps, v, rfl, hs⟩ := hso i rfl
    have x3 : w.cell? ⟨p, 3, none⟩ = some (.bool true) := x3
    have HIT : Hid (It w R RL p la lc L x true (at_ hp) ∧ Hs w R RL p la lc L i x up hp pa pc ps v) := ⟨hit, hs⟩
    have HX : Hid (∀ W, Below w.heap.size w W → W.cell? ⟨p, 0, none⟩ = some (.slice la L.length lc) ∧ W.cell? ⟨p, 1, none⟩ = some (.int .i64 (x.1 : Int)) ∧ W.cell? ⟨p, 2, none⟩ = some (.int .i64 (x.2 : Int)) ∧ W.cell? ⟨p, 4, none⟩ = some (at_ hp) ∧ W.frozen? ⟨p, 4, none⟩ = false) := fun W hW => by
      have hb := hit.box.kept (hW.block p hit.box.lt)
      exact ⟨hb.cell 0, hb.cell 1, hb.cell 2, hb.cell 4, hb.soft 4⟩
    have HFIT : Hid (∀ W, Below w.heap.size w W → Calls Try.prog 31 #[at_ hp, .int .i64 (1), .agg #[.int .i64 (x.1 : Int), .int .i64 (x.2 : Int)]] W fun e w' => e = .returned (.bool (true == up)) ∧ Below W.heap.size W w') := fun W hW => fit_any (hs.hd.below hW) true
    clear HM hit hso hs x0
    go_enter Try.func19, Try.ntmps19
    go_wp2_with fail
    have HB0 : Hid (Below w.heap.size w w.drew) := (Below.refl _ _).drew
    have y1 : w.drew.cell? ⟨p, 1, none⟩ = some (.int .i64 (x.1 : Int)) := x1
    have y2 : w.drew.cell? ⟨p, 2, none⟩ = some (.int .i64 (x.2 : Int)) := x2
    have y4 : w.drew.cell? ⟨p, 4, none⟩ = some (at_ hp) := x4
    clear x1 x2 x3 x4
    go_region_held3 (fun V => V.cell? ⟨p, 4, none⟩ = some (at_ hp) ∧ V.cell? ⟨p, 1, none⟩ = some (.int .i64 (x.1 : Int)) ∧ V.cell? ⟨p, 2, none⟩ = some (.int .i64 (x.2 : Int))) (first | exact ⟨y4, y1, y2⟩ | go_keep)
      (first
       | (go_at_call 31; refine (HFIT.out _ HB0.out).mono ?_; rintro _ vx ⟨rfl, hbx⟩
          have HB1 : Hid (Below w.heap.size w vx) := HB0.out.trans (hbx.mono HB0.out.size)
          obtain ⟨_, y1, y2, y4, _⟩ := HX.out _ HB1.out
          clear hbx))
    clear y1 y2 y4 HB0 HFIT
    cases up with
    | true =>
      have HA : Hid (afterT L v true = goP (allL L) 4 kvZ.1 (some i)) := by
        show normO (allL L) (sumV v L.length) = _
        rw [HIT.out.2.next rfl]; rfl
      have HT := ittake_any (HIT.out.1.below HB1.out) (HIT.out.2.hd.below HB1.out) HIT.out.2.rh.2 (fun k hk => (HIT.out.2.rp k hk).2) HIT.out.2.gp HIT.out.2.cut
      obtain ⟨_, _, _, z4, _⟩ := HX.out _ HB1.out
      go_wp2_with fail
      refine HT.mono ?_
      rintro _ w2 ⟨rfl, hw2⟩
      have HF : Hid (MgPost Mg16 R p L (goP (allL L) 4 kvZ.1 (some i)) w w2) := by
        rw [← HA.out]
        exact hw2.own HB1.out HIT.out.1.rp.1 HIT.out.2.rh.1 (fun k hk => (HIT.out.2.rp k hk).1)
      clear hw2 HT
      go_wp2
      go_end0
      exact ⟨rfl, HF.out⟩
    | false =>
      have hval : x.1 < L.length ∧ x.2 < lenL L x.1 := by
        have h1 : validL L x := mem_allP.1 (List.mem_of_getElem? HIT.out.2.at')
        have h2 : x.2 < lenL L x.1 := h1
        refine ⟨?_, h2⟩
        apply Classical.byContradiction
        intro hn
        rw [lenL_out (L := L) (i := x.1) (by omega)] at h2
        omega
      have HE : Hid (∀ W, Below w.heap.size w W → Calls Try.prog 27 #[.slice la L.length lc, .agg #[.int .i64 (x.1 : Int), .int .i64 (x.2 : Int)]] W fun e w' => e = .returned (.agg #[.string (entL L x).1.user, .int .u64 ((entL L x).1.seq : Int), .int .i64 (entL L x).1.kind, .string (entL L x).2]) ∧ Below W.heap.size W w') := fun W hW => entry_any (i := x.1) (j := x.2) ((HIT.out.1.below hW).ls.ls) hval.1 hval.2
      have HV : Hid (sumV (gapV L (entL L x).1 (x.1 + 1)) L.length = i + 1) := gap_next HIT.out.1.rise HIT.out.2.at'
      have HO : Hid (∀ W, Below w.heap.size w W → Calls Try.prog 29 #[.slice la L.length lc, .func (.func 33) #[.agg #[.slice la L.length lc, .string (entL L x).1.user, .int .u64 ((entL L x).1.seq : Int), .int .i64 (entL L x).1.kind, .int .i64 ((x.1 : Int) + 1)]] #[]] W fun e w' => OnP W la L.length lc true L (gapV L (entL L x).1 (x.1 + 1)) e w') := fun W hW => by
        have hb := HIT.out.1.below hW
        refine on_any 33 (.agg #[.slice la L.length lc, .string (entL L x).1.user, .int .u64 ((entL L x).1.seq : Int), .int .i64 (entL L x).1.kind, .int .i64 ((x.1 : Int) + 1)]) hb.ls.ls hb.few.1 (gapV_le L _ _) (few_each hb.few) (fun W i => by kernel_rfl) (fun W2 hW2 j hj => ?_)
        have := cut_any ((hb.below hW2).ls.ls) hb.rise (entL L x).1 (x.1 + 1) j hj (few_each hb.few j)
        rw [show gapA la L.length lc (entL L x).1 (x.1 + 1) = #[.slice la L.length lc, .string (entL L x).1.user, .int .u64 ((entL L x).1.seq : Int), .int .i64 (entL L x).1.kind, .int .i64 ((x.1 : Int) + 1)] from rfl] at this
        exact this
      have HCU : Hid (CutL L (gapV L (entL L x).1 (x.1 + 1))) := gap_cut HIT.out.1.rise _ _
      generalize entL L x = en at HE HV HO HCU
      generalize gapV L en.1 (x.1 + 1) = vg at HV HO HCU
      have HA : Hid (afterT L vg true = goP (allL L) 4 kvZ.1 (some i)) := by
        show normO (allL L) (sumV vg L.length) = _
        rw [HV.out]; rfl
      have hfk := fun W => fieldK W en.1.user (en.1.seq : Int) en.1.kind en.2
      have hl1 := hval.1
      have hl2 : L.length ≤ 1000 := HIT.out.1.few.1
      have hxw : IntKind.i64.wrap ((x.1 : Int) + 1) = (x.1 : Int) + 1 := by rw [IntKind.wrap_i64]; omega
      clear hval HV
      go_wp2_with fail
      have HB2 : Hid (Below w.heap.size w vx.drew) := HB1.out.drew
      obtain ⟨y0, y1, y2, y4, ys⟩ := HX.out _ HB2.out
      go_region_held3 (fun V => V.cell? ⟨p, 0, none⟩ = some (.slice la L.length lc) ∧ V.cell? ⟨p, 1, none⟩ = some (.int .i64 (x.1 : Int)) ∧ V.cell? ⟨p, 2, none⟩ = some (.int .i64 (x.2 : Int))) (first | with_reducible exact ⟨y0, y1, y2⟩ | exact HST.out | go_keep)
        (first
         | (go_at_call 27; refine (HE.out _ HB2.out).mono ?_; rintro _ vy ⟨rfl, hby⟩
            have HB2 : Hid (Below w.heap.size w vy) := HB2.out.trans (hby.mono HB2.out.size)
            obtain ⟨y0, y1, y2, y4, ys⟩ := HX.out _ HB2.out
            clear hby)
         | (go_at_call 29; refine (HO.out _ HB2.out).mono ?_; rintro _ vz ⟨hp2, pa2, pc2, ps2, rfl, hdz, hbz, hgz⟩
            have HON : Hid (Hd vz vy.heap.size hp2 la L.length lc true pa2 pc2 ps2 d0 ∧ Gp L true vg L.length ps2 ∧ w.heap.size ≤ hp2 ∧ (∀ j, blkOf pa2 = some j → w.heap.size ≤ j)) := ⟨hdz, hgz, Nat.le_trans HB2.out.size hdz.ge, fun j hj => Nat.le_trans HB2.out.size (hdz.row.ge hj).1⟩
            have HB2 : Hid (Below w.heap.size w vz) := HB2.out.trans (hbz.mono HB2.out.size)
            obtain ⟨y0, y1, y2, y4, ys⟩ := HX.out _ HB2.out
            have HST : Hid ((vz.setCell ⟨p, 4, none⟩ (at_ hp2)).cell? ⟨p, 0, none⟩ = some (.slice la L.length lc) ∧ (vz.setCell ⟨p, 4, none⟩ (at_ hp2)).cell? ⟨p, 1, none⟩ = some (.int .i64 (x.1 : Int)) ∧ (vz.setCell ⟨p, 4, none⟩ (at_ hp2)).cell? ⟨p, 2, none⟩ = some (.int .i64 (x.2 : Int))) := by
              have hb := (HIT.out.1.box.kept (HB2.out.block p HIT.out.1.box.lt)).set 4 (at_ hp2)
              exact ⟨hb.cell 0, hb.cell 1, hb.cell 2⟩
            clear hdz hbz hgz))
      have HIT2 := (HIT.out.1.below HB2.out).heads (at_ hp2)
      have hnp : hp2 ≠ p := by have := HIT.out.1.box.lt; have := HON.out.2.2.1; omega
      have hnq : ∀ j, blkOf pa2 = some j → j ≠ p := fun j hj => by have := HIT.out.1.box.lt; have := HON.out.2.2.2 j hj; omega
      have HT := ittake_any HIT2 (HON.out.1.kept (Below.heap_setCell _ _ _ _ hnp) fun k hk => Below.heap_setCell _ _ _ _ (hnq k hk)) (fun hr => by have := HIT.out.1.lt hp2 (HIT.out.1.rl hp2 hr); have := HON.out.2.2.1; omega) (fun j hj hr => by have := HIT.out.1.lt j (HIT.out.1.rl j hr); have := HON.out.2.2.2 j hj; omega) HON.out.2.1 HCU.out
      clear HIT2 hnp hnq y0 y1 y2 y4 ys
      go_wp2_with fail
      refine HT.mono ?_
      rintro _ w2 ⟨rfl, hw2⟩
      have HF : Hid (MgPost Mg16 R p L (goP (allL L) 4 kvZ.1 (some i)) w w2) := by
        rw [← HA.out]
        exact hw2.laid HB2.out HIT.out.1.rp.1 HON.out.2.2.1 HON.out.2.2.2
      clear hw2 HT
      go_wp2
      go_end0
      exact ⟨rfl, HF.out⟩
set_option maxRecDepth 100000 in
set_option maxHeartbeats 2000000 in
theorem prev_16 (h : Mg16 w R p L o) : Calls Try.prog 18 #[at_ p] w fun e w' => e = .returned (.tuple #[]) ∧ MgPost Mg16 R p L (goP (allL L) 5 kvZ.1 o) w w' := by
  have hmf : ∀ (fn : Fn) (first cap : Array Value) (w : World), (Instr.makeFunc fn first cap).run Try.prog w = .ok (.func fn first cap) w := fun _ _ _ _ => rfl
  have HM := h
  obtain ⟨RL, la, lc, x, hv, hit, hso⟩ := h
  have x0 := hit.box.cell 0
  have x1 := hit.box.cell 1
  have x2 := hit.box.cell 2
  have x3 := hit.box.cell 3
  have x4 := hit.box.cell 4
  simp only [List.getElem?_toArray, List.getElem?_cons_succ, List.getElem?_cons_zero] at x0 x1 x2 x3 x4
  cases o with
  | none =>
    have HF : Hid (MgPost Mg16 R p L (goP (allL L) 5 kvZ.1 none) w w) := ⟨R, HM, fun k hk => .inl hk, Chg.refl _ _⟩
    have x3 : w.cell? ⟨p, 3, none⟩ = some (.bool false) := x3
    clear HM hit hso
    go_enter Try.func18, Try.ntmps18
    go_wp2
    go_returns
    exact ⟨rfl, HF.out⟩
  | some i =>
    obtain ⟨up, hp, pa, pc, ps, v, rfl, hs⟩ := hso i rfl
    have x3 : w.cell? ⟨p, 3, none⟩ = some (.bool true) := x3
    have HIT : Hid (It w R RL p la lc L x true (at_ hp) ∧ Hs w R RL p la lc L i x up hp pa pc ps v) := ⟨hit, hs⟩
    have HX : Hid (∀ W, Below w.heap.size w W → W.cell? ⟨p, 0, none⟩ = some (.slice la L.length lc) ∧ W.cell? ⟨p, 1, none⟩ = some (.int .i64 (x.1 : Int)) ∧ W.cell? ⟨p, 2, none⟩ = some (.int .i64 (x.2 : Int)) ∧ W.cell? ⟨p, 4, none⟩ = some (at_ hp) ∧ W.frozen? ⟨p, 4, none⟩ = false) := fun W hW => by
      have hb := hit.box.kept (hW.block p hit.box.lt)
      exact ⟨hb.cell 0, hb.cell 1, hb.cell 2, hb.cell 4, hb.soft 4⟩
    have HFIT : Hid (∀ W, Below w.heap.size w W → Calls Try.prog 31 #[at_ hp, .int .i64 (-1), .agg #[.int .i64 (x.1 : Int), .int .i64 (x.2 : Int)]] W fun e w' => e = .returned (.bool (false == up)) ∧ Below W.heap.size W w') := fun W hW => fit_any (hs.hd.below hW) false
    clear HM hit hso hs x0
    go_enter Try.func18, Try.ntmps18
    go_wp2_with fail
    have HB0 : Hid (Below w.heap.size w w.drew) := (Below.refl _ _).drew
    have y1 : w.drew.cell? ⟨p, 1, none⟩ = some (.int .i64 (x.1 : Int)) := x1
    have y2 : w.drew.cell? ⟨p, 2, none⟩ = some (.int .i64 (x.2 : Int)) := x2
    have y4 : w.drew.cell? ⟨p, 4, none⟩ = some (at_ hp) := x4
    clear x1 x2 x3 x4
    go_region_held3 (fun V => V.cell? ⟨p, 4, none⟩ = some (at_ hp) ∧ V.cell? ⟨p, 1, none⟩ = some (.int .i64 (x.1 : Int)) ∧ V.cell? ⟨p, 2, none⟩ = some (.int .i64 (x.2 : Int))) (first | exact ⟨y4, y1, y2⟩ | go_keep)
      (first
       | (go_at_call 31; refine (HFIT.out _ HB0.out).mono ?_; rintro _ vx ⟨rfl, hbx⟩
          have HB1 : Hid (Below w.heap.size w vx) := HB0.out.trans (hbx.mono HB0.out.size)
          obtain ⟨_, y1, y2, y4, _⟩ := HX.out _ HB1.out
          clear hbx))
    clear y1 y2 y4 HB0 HFIT
    cases up with
    | false =>
      have HA : Hid (afterT L v false = goP (allL L) 5 kvZ.1 (some i)) := by
        show (if sumV v L.length = 0 then none else some (sumV v L.length - 1)) = _
        rw [HIT.out.2.prev rfl]; rfl
      have HT := ittake_any (HIT.out.1.below HB1.out) (HIT.out.2.hd.below HB1.out) HIT.out.2.rh.2 (fun k hk => (HIT.out.2.rp k hk).2) HIT.out.2.gp HIT.out.2.cut
      obtain ⟨_, _, _, z4, _⟩ := HX.out _ HB1.out
      go_wp2_with fail
      refine HT.mono ?_
      rintro _ w2 ⟨rfl, hw2⟩
      have HF : Hid (MgPost Mg16 R p L (goP (allL L) 5 kvZ.1 (some i)) w w2) := by
        rw [← HA.out]
        exact hw2.own HB1.out HIT.out.1.rp.1 HIT.out.2.rh.1 (fun k hk => (HIT.out.2.rp k hk).1)
      clear hw2 HT
      go_wp2
      go_end0
      exact ⟨rfl, HF.out⟩
    | true =>
      have hval : x.1 < L.length ∧ x.2 < lenL L x.1 := by
        have h1 : validL L x := mem_allP.1 (List.mem_of_getElem? HIT.out.2.at')
        have h2 : x.2 < lenL L x.1 := h1
        refine ⟨?_, h2⟩
        apply Classical.byContradiction
        intro hn
        rw [lenL_out (L := L) (i := x.1) (by omega)] at h2
        omega
      have HE : Hid (∀ W, Below w.heap.size w W → Calls Try.prog 27 #[.slice la L.length lc, .agg #[.int .i64 (x.1 : Int), .int .i64 (x.2 : Int)]] W fun e w' => e = .returned (.agg #[.string (entL L x).1.user, .int .u64 ((entL L x).1.seq : Int), .int .i64 (entL L x).1.kind, .string (entL L x).2]) ∧ Below W.heap.size W w') := fun W hW => entry_any (i := x.1) (j := x.2) ((HIT.out.1.below hW).ls.ls) hval.1 hval.2
      have HV : Hid (sumV (gapV L (entL L x).1 (x.1)) L.length = i) := gap_prev HIT.out.1.rise HIT.out.2.at'
      have HO : Hid (∀ W, Below w.heap.size w W → Calls Try.prog 32 #[.slice la L.length lc, .func (.func 33) #[.agg #[.slice la L.length lc, .string (entL L x).1.user, .int .u64 ((entL L x).1.seq : Int), .int .i64 (entL L x).1.kind, .int .i64 (x.1 : Int)]] #[]] W fun e w' => OnP W la L.length lc false L (gapV L (entL L x).1 (x.1)) e w') := fun W hW => by
        have hb := HIT.out.1.below hW
        refine back_any 33 (.agg #[.slice la L.length lc, .string (entL L x).1.user, .int .u64 ((entL L x).1.seq : Int), .int .i64 (entL L x).1.kind, .int .i64 (x.1 : Int)]) hb.ls.ls hb.few.1 (gapV_le L _ _) (few_each hb.few) (fun W i => by kernel_rfl) (fun W2 hW2 j hj => ?_)
        have := cut_any ((hb.below hW2).ls.ls) hb.rise (entL L x).1 (x.1) j hj (few_each hb.few j)
        skip
        exact this
      have HCU : Hid (CutL L (gapV L (entL L x).1 (x.1))) := gap_cut HIT.out.1.rise _ _
      generalize entL L x = en at HE HV HO HCU
      generalize gapV L en.1 (x.1) = vg at HV HO HCU
      have HA : Hid (afterT L vg false = goP (allL L) 5 kvZ.1 (some i)) := by
        show (if sumV vg L.length = 0 then none else some (sumV vg L.length - 1)) = _
        rw [HV.out]; rfl
      have hfk := fun W => fieldK W en.1.user (en.1.seq : Int) en.1.kind en.2
      have hl1 := hval.1
      have hl2 : L.length ≤ 1000 := HIT.out.1.few.1
      have hxw : IntKind.i64.wrap ((x.1 : Int) + 1) = (x.1 : Int) + 1 := by rw [IntKind.wrap_i64]; omega
      clear hval HV
      go_wp2_with fail
      have HB2 : Hid (Below w.heap.size w vx.drew) := HB1.out.drew
      obtain ⟨y0, y1, y2, y4, ys⟩ := HX.out _ HB2.out
      go_region_held3 (fun V => V.cell? ⟨p, 0, none⟩ = some (.slice la L.length lc) ∧ V.cell? ⟨p, 1, none⟩ = some (.int .i64 (x.1 : Int)) ∧ V.cell? ⟨p, 2, none⟩ = some (.int .i64 (x.2 : Int))) (first | with_reducible exact ⟨y0, y1, y2⟩ | exact HST.out | go_keep)
        (first
         | (go_at_call 27; refine (HE.out _ HB2.out).mono ?_; rintro _ vy ⟨rfl, hby⟩
            have HB2 : Hid (Below w.heap.size w vy) := HB2.out.trans (hby.mono HB2.out.size)
            obtain ⟨y0, y1, y2, y4, ys⟩ := HX.out _ HB2.out
            clear hby)
         | (go_at_call 32; refine (HO.out _ HB2.out).mono ?_; rintro _ vz ⟨hp2, pa2, pc2, ps2, rfl, hdz, hbz, hgz⟩
            have HON : Hid (Hd vz vy.heap.size hp2 la L.length lc false pa2 pc2 ps2 d0 ∧ Gp L false vg L.length ps2 ∧ w.heap.size ≤ hp2 ∧ (∀ j, blkOf pa2 = some j → w.heap.size ≤ j)) := ⟨hdz, hgz, Nat.le_trans HB2.out.size hdz.ge, fun j hj => Nat.le_trans HB2.out.size (hdz.row.ge hj).1⟩
            have HB2 : Hid (Below w.heap.size w vz) := HB2.out.trans (hbz.mono HB2.out.size)
            obtain ⟨y0, y1, y2, y4, ys⟩ := HX.out _ HB2.out
            have HST : Hid ((vz.setCell ⟨p, 4, none⟩ (at_ hp2)).cell? ⟨p, 0, none⟩ = some (.slice la L.length lc) ∧ (vz.setCell ⟨p, 4, none⟩ (at_ hp2)).cell? ⟨p, 1, none⟩ = some (.int .i64 (x.1 : Int)) ∧ (vz.setCell ⟨p, 4, none⟩ (at_ hp2)).cell? ⟨p, 2, none⟩ = some (.int .i64 (x.2 : Int))) := by
              have hb := (HIT.out.1.box.kept (HB2.out.block p HIT.out.1.box.lt)).set 4 (at_ hp2)
              exact ⟨hb.cell 0, hb.cell 1, hb.cell 2⟩
            clear hdz hbz hgz))
      have HIT2 := (HIT.out.1.below HB2.out).heads (at_ hp2)
      have hnp : hp2 ≠ p := by have := HIT.out.1.box.lt; have := HON.out.2.2.1; omega
      have hnq : ∀ j, blkOf pa2 = some j → j ≠ p := fun j hj => by have := HIT.out.1.box.lt; have := HON.out.2.2.2 j hj; omega
      have HT := ittake_any HIT2 (HON.out.1.kept (Below.heap_setCell _ _ _ _ hnp) fun k hk => Below.heap_setCell _ _ _ _ (hnq k hk)) (fun hr => by have := HIT.out.1.lt hp2 (HIT.out.1.rl hp2 hr); have := HON.out.2.2.1; omega) (fun j hj hr => by have := HIT.out.1.lt j (HIT.out.1.rl j hr); have := HON.out.2.2.2 j hj; omega) HON.out.2.1 HCU.out
      clear HIT2 hnp hnq y0 y1 y2 y4 ys
      go_wp2_with fail
      refine HT.mono ?_
      rintro _ w2 ⟨rfl, hw2⟩
      have HF : Hid (MgPost Mg16 R p L (goP (allL L) 5 kvZ.1 (some i)) w w2) := by
        rw [← HA.out]
        exact hw2.laid HB2.out HIT.out.1.rp.1 HON.out.2.2.1 HON.out.2.2.2
      clear hw2 HT
      go_wp2
      go_end0
      exact ⟨rfl, HF.out⟩
end
end Go.Proofs.Ytfijibengmgegaa
