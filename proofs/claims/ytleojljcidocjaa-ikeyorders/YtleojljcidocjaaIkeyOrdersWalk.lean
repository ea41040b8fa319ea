/- staddlelaw02.IkeyOrders returns true, for every argument, and leaves memory as it was. -/
import Derived.Test.YtleojljcidocjaaAwake2
import Derived.Test.YtleojljcidocjaaRKcmp
import Derived.Test.YtleojljcidocjaaRBetween
import Derived.Deep.RegionHeld3
namespace Go.Proofs.Ytleojljcidocjaa
open Go.RowKit
set_option maxRecDepth 100000 in
set_option maxHeartbeats 8000000 in
theorem ikeyOrders_walk (s0 : ByteArray) (q0 k0 : Int) (s1 : ByteArray) (q1 k1 : Int) (w : World) (e0 : s0.size ≤ 140737488351232) (_x0 : (Lit.int .u64 q0).wf = true) (_y0 : (Lit.int .i64 k0).wf = true) (e1 : s1.size ≤ 140737488351232) (_x1 : (Lit.int .u64 q1).wf = true) (_y1 : (Lit.int .i64 k1).wf = true) :
    Calls Try.prog 5 #[.agg #[.string s0, .int .u64 q0, .int .i64 k0], .agg #[.string s1, .int .u64 q1, .int .i64 k1]] w fun e w' => e = .returned (.bool true) ∧ Below w.heap.size w w' := by
  have h1 := fun W => compare_any s0 s1 q0 q1 k0 k1 W
  have h2 := fun W => rcompare_any s0 s1 q0 q1 k0 k1 W
  have h3 := fun W => between_any s0 s1 W e0 e1
  have h4 := fun W => rbetween_any s0 s1 W e0 e1
  have h5 := fun W => behind_any s0 W e0
  have h6 := fun W => rbehind_any s0 W e0
  generalize kcmp s0.toList s1.toList q0 q1 k0 k1 = C at h1 h2
  generalize strOf (between s0.data.toList s1.data.toList) = M at h3 h4
  generalize strOf (behind s0.data.toList) = N at h5 h6
  have H1 : Hid (∀ W, _) := h1
  have H2 : Hid (∀ W, _) := h2
  have H3 : Hid (∀ W, _) := h3
  have H4 : Hid (∀ W, _) := h4
  have H5 : Hid (∀ W, _) := h5
  have H6 : Hid (∀ W, _) := h6
  clear h1 h2 h3 h4 h5 h6
  go_enter Try.func5, Try.ntmps5
  go_wp2_with fail
  refine (awake_any _).mono ?_
  rintro e v1 ⟨rfl, hb1⟩
  have HB : Hid (Below w.heap.size w v1.drew) := ((((Below.refl _ w).alloc (Nat.le_refl _) _).alloc (by simp) _).trans (hb1.mono (by simp; omega))).drew
  have HS : Hid (Rec3 v1.drew w.heap.size (.string s0) (.int .u64 q0) (.int .i64 k0) ∧ Rec3 v1.drew (w.heap.size + 1) (.string s1) (.int .u64 q1) (.int .i64 k1)) := ⟨((Rec3.new w _ rfl _ _ _ _).alloc _).below (Nat.le_refl _) hb1.drew, (Rec3.new _ _ (by simp) _ _ _ _).below (Nat.le_refl _) hb1.drew⟩
  clear hb1
  obtain ⟨⟨c0, c1, c2, _, _, _, cl⟩, ⟨d0, d1, d2, _, _, _, dl⟩⟩ := HS.out
  go_wp2_with fail
  go_region_held3 (fun w' => w'.cell? ⟨w.heap.size, 0, none⟩ = some (.string s0) ∧ w'.cell? ⟨w.heap.size, 1, none⟩ = some (.int .u64 q0) ∧ w'.cell? ⟨w.heap.size, 2, none⟩ = some (.int .i64 k0) ∧ w'.cell? ⟨w.heap.size + 1, 0, none⟩ = some (.string s1) ∧ w'.cell? ⟨w.heap.size + 1, 1, none⟩ = some (.int .u64 q1) ∧ w'.cell? ⟨w.heap.size + 1, 2, none⟩ = some (.int .i64 k1)) (first | exact ⟨c0, c1, c2, d0, d1, d2⟩ | go_keep)
    (first
     | (go_at_call 16; refine (H1.out _).mono ?_; rintro e vx ⟨rfl, hbx⟩
        have HS : Hid (Rec3 vx w.heap.size (.string s0) (.int .u64 q0) (.int .i64 k0) ∧ Rec3 vx (w.heap.size + 1) (.string s1) (.int .u64 q1) (.int .i64 k1)) := ⟨HS.out.1.below (Nat.le_refl _) hbx, HS.out.2.below (Nat.le_refl _) hbx⟩
        have HB : Hid (Below w.heap.size w vx) := HB.out.trans (hbx.mono HB.out.size)
        clear hbx
        obtain ⟨⟨c0, c1, c2, _, _, _, cl⟩, ⟨d0, d1, d2, _, _, _, dl⟩⟩ := HS.out)
     | (go_at_call 17; refine (H2.out _).mono ?_; rintro e vx ⟨rfl, hbx⟩
        have HS : Hid (Rec3 vx w.heap.size (.string s0) (.int .u64 q0) (.int .i64 k0) ∧ Rec3 vx (w.heap.size + 1) (.string s1) (.int .u64 q1) (.int .i64 k1)) := ⟨HS.out.1.below (Nat.le_refl _) hbx, HS.out.2.below (Nat.le_refl _) hbx⟩
        have HB : Hid (Below w.heap.size w vx) := HB.out.trans (hbx.mono HB.out.size)
        clear hbx
        obtain ⟨⟨c0, c1, c2, _, _, _, cl⟩, ⟨d0, d1, d2, _, _, _, dl⟩⟩ := HS.out)
     | (go_at_call 18; refine (H3.out _).mono ?_; rintro e vx ⟨rfl, hbx⟩
        have HS : Hid (Rec3 vx w.heap.size (.string s0) (.int .u64 q0) (.int .i64 k0) ∧ Rec3 vx (w.heap.size + 1) (.string s1) (.int .u64 q1) (.int .i64 k1)) := ⟨HS.out.1.below (Nat.le_refl _) hbx, HS.out.2.below (Nat.le_refl _) hbx⟩
        have HB : Hid (Below w.heap.size w vx) := HB.out.trans (hbx.mono HB.out.size)
        clear hbx
        obtain ⟨⟨c0, c1, c2, _, _, _, cl⟩, ⟨d0, d1, d2, _, _, _, dl⟩⟩ := HS.out)
     | (go_at_call 19; refine (H4.out _).mono ?_; rintro e vx ⟨rfl, hbx⟩
        have HS : Hid (Rec3 vx w.heap.size (.string s0) (.int .u64 q0) (.int .i64 k0) ∧ Rec3 vx (w.heap.size + 1) (.string s1) (.int .u64 q1) (.int .i64 k1)) := ⟨HS.out.1.below (Nat.le_refl _) hbx, HS.out.2.below (Nat.le_refl _) hbx⟩
        have HB : Hid (Below w.heap.size w vx) := HB.out.trans (hbx.mono HB.out.size)
        clear hbx
        obtain ⟨⟨c0, c1, c2, _, _, _, cl⟩, ⟨d0, d1, d2, _, _, _, dl⟩⟩ := HS.out)
     | (go_at_call 20; refine (H5.out _).mono ?_; rintro e vx ⟨rfl, hbx⟩
        have HS : Hid (Rec3 vx w.heap.size (.string s0) (.int .u64 q0) (.int .i64 k0) ∧ Rec3 vx (w.heap.size + 1) (.string s1) (.int .u64 q1) (.int .i64 k1)) := ⟨HS.out.1.below (Nat.le_refl _) hbx, HS.out.2.below (Nat.le_refl _) hbx⟩
        have HB : Hid (Below w.heap.size w vx) := HB.out.trans (hbx.mono HB.out.size)
        clear hbx
        obtain ⟨⟨c0, c1, c2, _, _, _, cl⟩, ⟨d0, d1, d2, _, _, _, dl⟩⟩ := HS.out)
     | (go_at_call 21; refine (H6.out _).mono ?_; rintro e vx ⟨rfl, hbx⟩
        have HS : Hid (Rec3 vx w.heap.size (.string s0) (.int .u64 q0) (.int .i64 k0) ∧ Rec3 vx (w.heap.size + 1) (.string s1) (.int .u64 q1) (.int .i64 k1)) := ⟨HS.out.1.below (Nat.le_refl _) hbx, HS.out.2.below (Nat.le_refl _) hbx⟩
        have HB : Hid (Below w.heap.size w vx) := HB.out.trans (hbx.mono HB.out.size)
        clear hbx
        obtain ⟨⟨c0, c1, c2, _, _, _, cl⟩, ⟨d0, d1, d2, _, _, _, dl⟩⟩ := HS.out))
  all_goals
    go_wp2
    go_ret
    exact ⟨ret1 (by simp), HB.out⟩
end Go.Proofs.Ytleojljcidocjaa
