/- Merge's iterator: start, First, Last, Seek. -/
import Derived.Test.YtfijibengmgegaaM16MgJ
namespace Go.Proofs.Ytfijibengmgegaa
open Go.RowKit
set_option linter.unusedVariables false
set_option linter.unusedSimpArgs false
section
variable {W W' w : World} {R RL : Nat → Prop} {p B : Nat} {la : Option Addr} {lc : Nat} {L : List (List KV)} {x last : PlL} {b : Bool} {hv : Value} {i hp : Nat} {up : Bool} {pa : Option Addr} {pc : Nat} {ps : List PlL} {v : Nat → Nat} {o : Option Nat}
theorem It.heads (h : It W R RL p la lc L x b hv) (u : Value) : It (W.setCell ⟨p, 4, none⟩ u) R RL p la lc L x b u := ⟨(h.box.set 4 u).eq (by simp), fun k hk => by simpa using h.lt k hk, h.rp, h.rl, h.ls.kept fun k hr => Below.heap_setCell _ _ _ _ (fun e => h.rp.2 ((show k = p from e) ▸ hr)), h.rise, h.few⟩
theorem It.below (h : It W R RL p la lc L x b hv) (hb : Below W.heap.size W W') : It W' R RL p la lc L x b hv := h.kept hb.size fun k hk => hb.block k (h.lt k hk)
set_option maxRecDepth 100000 in
set_option maxHeartbeats 2000000 in
theorem start_any (h : It W R RL p la lc L x b hv) (hd : Hd W B hp la L.length lc up pa pc ps last) (hr : ¬ RL hp) (hrp : ∀ k, blkOf pa = some k → ¬ RL k) (hg : Gp L up v L.length ps) (hc : CutL L v) :
    Calls Try.prog 28 #[at_ p, at_ hp] W fun e w' => e = .returned (.tuple #[]) ∧ ItP W R p hp la lc L pa (afterT L v up) w' := by
  have x4 := h.box.cell 4
  simp only [List.getElem?_toArray, List.getElem?_cons_succ, List.getElem?_cons_zero] at x4
  have xs := h.box.soft
  have hne : hp ≠ p := tag_ne hd.box.tag h.box.tag (by decide)
  have hnp : ∀ k, blkOf pa = some k → k ≠ p := fun k hk => tag_ne (hd.row.tag hk) h.box.tag (by decide)
  have HT := ittake_any (h.heads (at_ hp)) (hd.kept (Below.heap_setCell _ _ _ _ hne) fun k hk => Below.heap_setCell _ _ _ _ (hnp k hk)) hr hrp hg hc
  clear h hd hr hrp hg hc hne hnp
  go_enter Try.func28, Try.ntmps28
  go_wp2_with fail
  refine HT.mono ?_
  rintro _ w2 ⟨rfl, R', h1, h2, h3, h4⟩
  have HF : Hid (ItP W R p hp la lc L pa (afterT L v up) w2) := ⟨R', h1, h2, ((Chg.refl (fun k => k = p ∨ k = hp ∨ blkOf pa = some k) W).set (p := p) (fun _ => .inl rfl) 4 (at_ hp)).andThen h3 fun _ _ e => e, h4⟩
  clear h1 h2 h3 h4
  go_wp2
  go_end0
  exact ⟨rfl, HF.out⟩
/-- Behind heads that were just laid. -/
theorem ItP.post {w1 : World} (h : ItP w1 R p hp la lc L pa o W') (hb : Below w.heap.size w w1) (hp1 : R p) (h1 : w.heap.size ≤ hp) (h2 : ∀ k, blkOf pa = some k → w.heap.size ≤ k) : MgPost Mg16 R p L o w W' := by
  obtain ⟨R', g1, g2, g3, g4⟩ := h
  refine ⟨R', g1, fun k hk => ?_, (Chg.of (R := R) hb).andThen g3 fun k hk hkk => ?_⟩
  · rcases g2 k hk with e | e | e
    · exact .inl e
    · exact .inr (e ▸ h1)
    · exact .inr (h2 k e)
  · rcases hkk with e | e | e
    · exact e ▸ hp1
    · omega
    · have := h2 k e; omega
theorem sum_zero (n : Nat) : sumV (fun _ => 0) n = 0 := by
  induction n with
  | zero => rfl
  | succ n ih => show sumV _ n + 0 = 0; rw [ih]
set_option maxRecDepth 100000 in
theorem none_any (a : Option Addr) (n c i : Nat) (w : World) : Calls Try.prog 30 #[.slice a n c, .int .i64 (i : Int)] w fun e w' => e = .returned (.int .i64 0) ∧ Below w.heap.size w w' := by
  go_enter Try.func30, Try.ntmps30
  go_wp2
  go_ret
  exact ⟨ret1 rfl, Below.refl _ _⟩
set_option maxRecDepth 100000 in
theorem each_any {a : Option Addr} {n c : Nat} (h : LsAt w a n c L) {i : Nat} (hi : i < n) : Calls Try.prog 35 #[.slice a n c, .int .i64 (i : Int)] w fun e w' => e = .returned (.int .i64 (lenL L i : Int)) ∧ Below w.heap.size w w' := by
  obtain ⟨b, o, ai, ci, hx, hy, _⟩ := h.listA hi
  have hy0 := hy w (Below.refl _ _)
  clear h hy hi
  generalize lenL L i = li at *
  go_enter Try.func35, Try.ntmps35
  go_wp2
  go_ret
  exact ⟨ret1 rfl, Below.refl _ _⟩
set_option maxRecDepth 100000 in
set_option maxHeartbeats 2000000 in
theorem first_16 (h : Mg16 w R p L o) : Calls Try.prog 17 #[at_ p] w fun e w' => e = .returned (.tuple #[]) ∧ MgPost Mg16 R p L (goP (allL L) 1 kvZ.1 o) w w' := by
  have hmf : ∀ (fn : Fn) (first cap : Array Value) (w : World), (Instr.makeFunc fn first cap).run Try.prog w = .ok (.func fn first cap) w := fun _ _ _ _ => rfl
  obtain ⟨RL, la, lc, x, hv, hit, _⟩ := h
  have HIT : Hid (It w R RL p la lc L x o.isSome hv) := hit
  have HO : Hid (∀ W, Below w.heap.size w W → Calls Try.prog 29 #[.slice la L.length lc, .func (.func 30) #[.slice la L.length lc] #[]] W fun e w' => OnP W la L.length lc true L (fun _ => 0) e w') := fun W hW => by
    have hb := hit.below hW
    refine on_any 30 (.slice la L.length lc) hb.ls.ls hb.few.1 (fun _ => Nat.zero_le _) (few_each hit.few) (fun W i => by kernel_rfl) (fun W2 hW2 i hi => ?_)
    refine (none_any _ _ _ _ _).mono ?_
    rintro _ w9 ⟨rfl, h9⟩
    exact ⟨rfl, h9⟩
  have HCUT : Hid (CutL L (fun _ => 0)) := cut_zero L
  have HA : Hid (afterT L (fun _ => 0) true = goP (allL L) 1 kvZ.1 o) := by
    show normO (allL L) (sumV (fun _ => 0) L.length) = _
    rw [sum_zero]; rfl
  have HX : Hid (∀ W, Below w.heap.size w W → W.cell? ⟨p, 0, none⟩ = some (.slice la L.length lc)) := fun W hW => (hit.box.kept (hW.block p hit.box.lt)).cell 0
  clear hit
  go_enter Try.func17, Try.ntmps17
  go_wp2_with fail
  have HB0 : Hid (Below w.heap.size w w.drew) := (Below.refl _ _).drew
  have x0 : w.drew.cell? ⟨p, 0, none⟩ = some (.slice la L.length lc) := HX.out _ HB0.out
  go_region_held3 (fun V => V.cell? ⟨p, 0, none⟩ = some (.slice la L.length lc)) (first | exact x0 | go_keep)
    (first
     | (go_at_call 29; refine (HO.out _ HB0.out).mono ?_; rintro _ vx ⟨hp, pa, pc, ps, rfl, hdx, hbx, hgx⟩
        have HKX : Hid (Below w.heap.size w vx ∧ w.heap.size ≤ hp ∧ (∀ j, blkOf pa = some j → w.heap.size ≤ j)) := ⟨HB0.out.trans (hbx.mono HB0.out.size), Nat.le_trans HB0.out.size hdx.ge, fun j hj => Nat.le_trans HB0.out.size (hdx.row.ge hj).1⟩
        have HON : Hid (Hd vx w.drew.heap.size hp la L.length lc true pa pc ps d0 ∧ Gp L true (fun _ => 0) L.length ps) := ⟨hdx, hgx⟩
        have x0 : vx.cell? ⟨p, 0, none⟩ = some (.slice la L.length lc) := HX.out _ HKX.out.1
        clear hdx hbx hgx)
     | (go_at_call 28; refine (start_any (HIT.out.below HKX.out.1) HON.out.1 (fun hr => by have := HIT.out.lt hp (HIT.out.rl hp hr); have := HKX.out.2.1; omega) (fun j hj hr => by have := HIT.out.lt j (HIT.out.rl j hr); have := HKX.out.2.2 j hj; omega) HON.out.2 HCUT.out).mono ?_; rintro _ vy ⟨rfl, hy⟩
        have HPO : Hid (MgPost Mg16 R p L (goP (allL L) 1 kvZ.1 o) w vy) := by
          rw [← HA.out]
          exact hy.post HKX.out.1 HIT.out.rp.1 HKX.out.2.1 HKX.out.2.2
        obtain ⟨_, _, _, _, hy0⟩ := hy
        have x0 : vy.cell? ⟨p, 0, none⟩ = some (.slice la L.length lc) := hy0
        clear hy0))
  go_wp2
  go_end0
  exact ⟨rfl, HPO.out⟩
set_option maxRecDepth 100000 in
set_option maxHeartbeats 2000000 in
theorem last_16 (h : Mg16 w R p L o) : Calls Try.prog 21 #[at_ p] w fun e w' => e = .returned (.tuple #[]) ∧ MgPost Mg16 R p L (goP (allL L) 2 kvZ.1 o) w w' := by
  have hmf : ∀ (fn : Fn) (first cap : Array Value) (w : World), (Instr.makeFunc fn first cap).run Try.prog w = .ok (.func fn first cap) w := fun _ _ _ _ => rfl
  obtain ⟨RL, la, lc, x, hv, hit, _⟩ := h
  have HIT : Hid (It w R RL p la lc L x o.isSome hv) := hit
  have HO : Hid (∀ W, Below w.heap.size w W → Calls Try.prog 32 #[.slice la L.length lc, .func (.func 35) #[.slice la L.length lc] #[]] W fun e w' => OnP W la L.length lc false L (lenL L) e w') := fun W hW => by
    have hb := hit.below hW
    refine back_any 35 (.slice la L.length lc) hb.ls.ls hb.few.1 (fun _ => Nat.le_refl _) (few_each hit.few) (fun W i => by kernel_rfl) (fun W2 hW2 i hi => ?_)
    exact each_any ((hb.below hW2).ls.ls) hi
  have HCUT : Hid (CutL L (lenL L)) := cutL_all L
  have HA : Hid (afterT L (lenL L) false = goP (allL L) 2 kvZ.1 o) := by
    show (if sumV (lenL L) L.length = 0 then none else some (sumV (lenL L) L.length - 1)) = _
    rw [← all_len, show (allP L).length = (allL L).length by simp [allL]]; rfl
  have HX : Hid (∀ W, Below w.heap.size w W → W.cell? ⟨p, 0, none⟩ = some (.slice la L.length lc)) := fun W hW => (hit.box.kept (hW.block p hit.box.lt)).cell 0
  clear hit
  go_enter Try.func21, Try.ntmps21
  go_wp2_with fail
  have HB0 : Hid (Below w.heap.size w w.drew) := (Below.refl _ _).drew
  have x0 : w.drew.cell? ⟨p, 0, none⟩ = some (.slice la L.length lc) := HX.out _ HB0.out
  go_region_held3 (fun V => V.cell? ⟨p, 0, none⟩ = some (.slice la L.length lc)) (first | exact x0 | go_keep)
    (first
     | (go_at_call 32; refine (HO.out _ HB0.out).mono ?_; rintro _ vx ⟨hp, pa, pc, ps, rfl, hdx, hbx, hgx⟩
        have HKX : Hid (Below w.heap.size w vx ∧ w.heap.size ≤ hp ∧ (∀ j, blkOf pa = some j → w.heap.size ≤ j)) := ⟨HB0.out.trans (hbx.mono HB0.out.size), Nat.le_trans HB0.out.size hdx.ge, fun j hj => Nat.le_trans HB0.out.size (hdx.row.ge hj).1⟩
        have HON : Hid (Hd vx w.drew.heap.size hp la L.length lc false pa pc ps d0 ∧ Gp L false (lenL L) L.length ps) := ⟨hdx, hgx⟩
        have x0 : vx.cell? ⟨p, 0, none⟩ = some (.slice la L.length lc) := HX.out _ HKX.out.1
        clear hdx hbx hgx)
     | (go_at_call 28; refine (start_any (HIT.out.below HKX.out.1) HON.out.1 (fun hr => by have := HIT.out.lt hp (HIT.out.rl hp hr); have := HKX.out.2.1; omega) (fun j hj hr => by have := HIT.out.lt j (HIT.out.rl j hr); have := HKX.out.2.2 j hj; omega) HON.out.2 HCUT.out).mono ?_; rintro _ vy ⟨rfl, hy⟩
        have HPO : Hid (MgPost Mg16 R p L (goP (allL L) 2 kvZ.1 o) w vy) := by
          rw [← HA.out]
          exact hy.post HKX.out.1 HIT.out.rp.1 HKX.out.2.1 HKX.out.2.2
        obtain ⟨_, _, _, _, hy0⟩ := hy
        have x0 : vy.cell? ⟨p, 0, none⟩ = some (.slice la L.length lc) := hy0
        clear hy0))
  go_wp2
  go_end0
  exact ⟨rfl, HPO.out⟩
set_option maxRecDepth 100000 in
set_option maxHeartbeats 2000000 in
theorem seek_16 (k : IK) (h : Mg16 w R p L o) : Calls Try.prog 22 #[at_ p, keyV k] w fun e w' => e = .returned (.tuple #[]) ∧ MgPost Mg16 R p L (goP (allL L) 3 k o) w w' := by
  have hmf : ∀ (fn : Fn) (first cap : Array Value) (w : World), (Instr.makeFunc fn first cap).run Try.prog w = .ok (.func fn first cap) w := fun _ _ _ _ => rfl
  obtain ⟨RL, la, lc, x, hv, hit, _⟩ := h
  have HIT : Hid (It w R RL p la lc L x o.isSome hv) := hit
  have HO : Hid (∀ W, Below w.heap.size w W → Calls Try.prog 29 #[.slice la L.length lc, .func (.func 33) #[.agg #[.slice la L.length lc, .string k.user, .int .u64 (k.seq : Int), .int .i64 k.kind, .int .i64 0]] #[]] W fun e w' => OnP W la L.length lc true L (gapV L k 0) e w') := fun W hW => by
    have hb := hit.below hW
    refine on_any 33 (.agg #[.slice la L.length lc, .string k.user, .int .u64 (k.seq : Int), .int .i64 k.kind, .int .i64 0]) hb.ls.ls hb.few.1 (gapV_le L k 0) (few_each hit.few) (fun W i => by kernel_rfl) (fun W2 hW2 i hi => ?_)
    exact cut_any ((hb.below hW2).ls.ls) hit.rise k 0 i hi (few_each hit.few i)
  have HCUT : Hid (CutL L (gapV L k 0)) := gap_cut hit.rise k 0
  have HA : Hid (afterT L (gapV L k 0) true = goP (allL L) 3 k o) := by
    show normO (allL L) (sumV (gapV L k 0) L.length) = _
    rw [gap_seek hit.rise]; rfl
  have HX : Hid (∀ W, Below w.heap.size w W → W.cell? ⟨p, 0, none⟩ = some (.slice la L.length lc)) := fun W hW => (hit.box.kept (hW.block p hit.box.lt)).cell 0
  clear hit
  have hkb := Box.new w 33 #[.string k.user, .int .u64 (k.seq : Int), .int .i64 k.kind]
  have HKB : Hid (Box (w.alloc (.cells #[.string k.user, .int .u64 (k.seq : Int), .int .i64 k.kind] 33)) w.heap.size 33 #[.string k.user, .int .u64 (k.seq : Int), .int .i64 k.kind] ∧ Below w.heap.size w (w.alloc (.cells #[.string k.user, .int .u64 (k.seq : Int), .int .i64 k.kind] 33)) ∧ (w.alloc (.cells #[.string k.user, .int .u64 (k.seq : Int), .int .i64 k.kind] 33)).heap.size = w.heap.size + 1) := ⟨hkb, (Below.refl _ _).alloc (Nat.le_refl _) _, by simp⟩
  have HX0 := HX.out _ HKB.out.2.1
  have k0 := hkb.cell 0
  have k1 := hkb.cell 1
  have k2 := hkb.cell 2
  simp only [List.getElem?_toArray, List.getElem?_cons_succ, List.getElem?_cons_zero] at k0 k1 k2
  clear hkb
  go_enter Try.func22, Try.ntmps22
  go_wp2_with fail
  generalize (w.alloc (.cells #[.string k.user, .int .u64 (k.seq : Int), .int .i64 k.kind] 33)) = w0 at HKB HX0 k0 k1 k2 ⊢
  have HB0 : Hid (Below w0.heap.size w0 w0.drew) := (Below.refl _ _).drew
  have x0 : w0.drew.cell? ⟨p, 0, none⟩ = some (.slice la L.length lc) := HX0
  have k0 : w0.drew.cell? ⟨w.heap.size, 0, none⟩ = some (.string k.user) := k0
  have k1 : w0.drew.cell? ⟨w.heap.size, 1, none⟩ = some (.int .u64 (k.seq : Int)) := k1
  have k2 : w0.drew.cell? ⟨w.heap.size, 2, none⟩ = some (.int .i64 k.kind) := k2
  go_region_held3 (fun V => V.cell? ⟨p, 0, none⟩ = some (.slice la L.length lc) ∧ V.cell? ⟨w.heap.size, 0, none⟩ = some (.string k.user) ∧ V.cell? ⟨w.heap.size, 1, none⟩ = some (.int .u64 (k.seq : Int)) ∧ V.cell? ⟨w.heap.size, 2, none⟩ = some (.int .i64 k.kind)) (first | exact ⟨x0, k0, k1, k2⟩ | go_keep)
    (first
     | (go_at_call 29; refine (HO.out _ (HKB.out.2.1.trans (HB0.out.mono (by have := HKB.out.2.2; omega)))).mono ?_; rintro _ vx ⟨hp, pa, pc, ps, rfl, hdx, hbx, hgx⟩
        have HKX : Hid (Box vx w.heap.size 33 #[.string k.user, .int .u64 (k.seq : Int), .int .i64 k.kind] ∧ Below w.heap.size w vx ∧ w.heap.size + 1 ≤ hp ∧ (∀ j, blkOf pa = some j → w.heap.size + 1 ≤ j)) := by
          have hb2 := HB0.out.trans (hbx.mono HB0.out.size)
          have e := HKB.out.2.2
          exact ⟨HKB.out.1.kept (hb2.block _ HKB.out.1.lt), HKB.out.2.1.trans (hb2.mono (by omega)), Nat.le_trans (by have := HB0.out.size; omega) hdx.ge, fun j hj => Nat.le_trans (by have := HB0.out.size; omega) (hdx.row.ge hj).1⟩
        have HON : Hid (Hd vx w0.drew.heap.size hp la L.length lc true pa pc ps d0 ∧ Gp L true (gapV L k 0) L.length ps) := ⟨hdx, hgx⟩
        have x0 : vx.cell? ⟨p, 0, none⟩ = some (.slice la L.length lc) := HX.out _ HKX.out.2.1
        have k0 : vx.cell? ⟨w.heap.size, 0, none⟩ = some (.string k.user) := HKX.out.1.cell 0
        have k1 : vx.cell? ⟨w.heap.size, 1, none⟩ = some (.int .u64 (k.seq : Int)) := HKX.out.1.cell 1
        have k2 : vx.cell? ⟨w.heap.size, 2, none⟩ = some (.int .i64 k.kind) := HKX.out.1.cell 2
        clear hdx hbx hgx)
     | (go_at_call 28; refine (start_any (HIT.out.below HKX.out.2.1) HON.out.1 (fun hr => by have := HIT.out.lt hp (HIT.out.rl hp hr); have := HKX.out.2.2.1; omega) (fun j hj hr => by have := HIT.out.lt j (HIT.out.rl j hr); have := HKX.out.2.2.2 j hj; omega) HON.out.2 HCUT.out).mono ?_; rintro _ vy ⟨rfl, hy⟩
        have HPO : Hid (MgPost Mg16 R p L (goP (allL L) 3 k o) w vy) := by
          rw [← HA.out]
          exact hy.post HKX.out.2.1 HIT.out.rp.1 (by have := HKX.out.2.2.1; omega) (fun j hj => by have := HKX.out.2.2.2 j hj; omega)
        obtain ⟨_, _, _, hcy, hy0⟩ := hy
        have hky := HKX.out.1.kept (hcy.block _ HKX.out.1.lt (fun hk => by
          rcases hk with e | e | e
          · have := HIT.out.box.lt; omega
          · have := HKX.out.2.2.1; omega
          · have := HKX.out.2.2.2 _ e; omega))
        have x0 : vy.cell? ⟨p, 0, none⟩ = some (.slice la L.length lc) := hy0
        have k0 : vy.cell? ⟨w.heap.size, 0, none⟩ = some (.string k.user) := hky.cell 0
        have k1 : vy.cell? ⟨w.heap.size, 1, none⟩ = some (.int .u64 (k.seq : Int)) := hky.cell 1
        have k2 : vy.cell? ⟨w.heap.size, 2, none⟩ = some (.int .i64 k.kind) := hky.cell 2
        clear hcy hy0 hky))
  go_wp2
  go_end0
  exact ⟨rfl, HPO.out⟩
end
end Go.Proofs.Ytfijibengmgegaa
