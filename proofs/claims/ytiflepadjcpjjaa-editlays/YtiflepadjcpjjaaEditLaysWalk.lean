/- The walk of EditLays. -/
import Derived.Test.YtiflepadjcpjjaaE13Awake
import Derived.Test.YtiflepadjcpjjaaE13REncB
import Derived.Deep.RegionHeld3
namespace Go.Proofs.Ytiflepadjcpjjaa
open Go.RowKit
set_option linter.unusedVariables false
set_option linter.unusedSimpArgs false
theorem OwnG.made (w : World) : OwnG (w.alloc (.cells #[] TG)) w.heap.size (some ⟨w.heap.size, 0, none⟩) 0 0 [] := ⟨rfl, World.ownsRow_made w #[] 0 (Nat.le_refl _) (Nat.zero_le _) rfl⟩
theorem OwnF.made (w : World) : OwnF (w.alloc (.cells #[] TF)) w.heap.size (some ⟨w.heap.size, 0, none⟩) 0 0 [] := ⟨rfl, World.ownsRow_made w #[] 0 (Nat.le_refl _) (Nat.zero_le _) rfl⟩
set_option maxRecDepth 100000 in
set_option maxHeartbeats 4000000 in
theorem editLays_walk (x : PE) (s : SE) (w : World) (h : EdAt w x s) (hwf : WfE x) (hdl : x.dels.length * 16 ≤ 140737488351232) (hal : x.adds.length * 88 ≤ 140737488351232) :
    Calls Try.prog 4 #[.agg #[.int .u64 (x.log : Int), .int .u64 (x.next : Int), .int .u64 (x.last : Int), .slice s.a x.dels.length s.c, .slice s.a' x.adds.length s.c']] w fun e w' => e = .returned (.bool true) ∧ Below w.heap.size w w' := by
  have HB0 : Hid (Below w.heap.size w (w.alloc (.cells (eA x s) TE)) ∧ Box (w.alloc (.cells (eA x s) TE)) w.heap.size TE (eA x s)) := ⟨(Below.refl _ _).alloc (Nat.le_refl _) _, Box.new _ _ _⟩
  have HS : Hid (EdAt w x s ∧ WfE x) := ⟨h, hwf⟩
  clear h hwf
  go_enter Try.func4, Try.ntmps4
  go_wp2_with fail
  refine (awake_any _).mono ?_
  rintro _ w1 ⟨rfl, hb1⟩
  have H1 : Hid (Below w.heap.size w w1 ∧ Box w1 w.heap.size TE (eA x s)) := ⟨HB0.out.1.trans (hb1.mono HB0.out.1.size), HB0.out.2.kept (hb1.block _ HB0.out.2.lt)⟩
  obtain ⟨c0, c1, c2, c3, c4⟩ := H1.out.2.five
  have hlt1 : w.heap.size < w1.heap.size := H1.out.2.lt
  clear hb1 HB0
  have H2 : Hid (Below w.heap.size w ((w1.alloc (.cells (eA x s) TE)).alloc (.cells #[] TG)) ∧ Box ((w1.alloc (.cells (eA x s) TE)).alloc (.cells #[] TG)) w.heap.size TE (eA x s) ∧ Box ((w1.alloc (.cells (eA x s) TE)).alloc (.cells #[] TG)) w1.heap.size TE (eA x s) ∧ EdAt ((w1.alloc (.cells (eA x s) TE)).alloc (.cells #[] TG)) x s ∧ OwnG ((w1.alloc (.cells (eA x s) TE)).alloc (.cells #[] TG)) (w1.heap.size + 1) (some ⟨w1.heap.size + 1, 0, none⟩) 0 0 []) := by
    have hb := (H1.out.1.alloc H1.out.1.size (.cells (eA x s) TE))
    have hb' := hb.alloc hb.size (.cells #[] TG)
    have hm := OwnG.made (w1.alloc (.cells (eA x s) TE))
    rw [show (w1.alloc (.cells (eA x s) TE)).heap.size = w1.heap.size + 1 by simp] at hm
    exact ⟨hb', (H1.out.2.alloc _).alloc _, (Box.new _ _ _).alloc _, HS.out.1.below hb', hm⟩
  go_wp2_with (first
    | (at_builtin
       refine wpList_appG ((w1.alloc (.cells (eA x s) TE)).alloc (.cells #[] TG)) rfl _ _ rfl (w1.heap.size + 1) (some ⟨w1.heap.size + 1, 0, none⟩) 0 0 [] rfl H2.out.2.2.2.2 s.a x.dels.length s.c x.dels rfl H2.out.2.2.2.1.gs (by omega) (by simp) ?_))
  intro a3 k3 w3 ho3 hb3 hg3
  have hq3 : Box w3 w1.heap.size TE (eA x s) := H2.out.2.2.1.kept (hb3.block _ (by omega))
  have hx3 : Box w3 w.heap.size TE (eA x s) := H2.out.2.1.kept (hb3.block _ (by omega))
  have hb3w : Below w.heap.size w w3 := H2.out.1.trans (hb3.mono (by omega))
  have hlt3 : w1.heap.size < w3.heap.size := hq3.lt
  obtain ⟨W4, e4⟩ : ∃ W4, W4 = w3.setCell ⟨w1.heap.size, 3, none⟩ (.slice a3 x.dels.length k3) := ⟨_, rfl⟩
  have hs4 : W4.heap.size = w3.heap.size := by rw [e4]; simp
  have hbw : Below w.heap.size w W4 := by rw [e4]; exact hb3w.setCell (by show w.heap.size ≤ w1.heap.size; omega) _
  have H4 : Hid (Below w.heap.size w (W4.alloc (.cells #[] TF)) ∧ Box (W4.alloc (.cells #[] TF)) w.heap.size TE (eA x s) ∧ Box (W4.alloc (.cells #[] TF)) w1.heap.size TE (eA x ⟨a3, k3, s.a', s.c'⟩) ∧ EdAt (W4.alloc (.cells #[] TF)) x s ∧ OwnG (W4.alloc (.cells #[] TF)) (w1.heap.size + 1) a3 x.dels.length k3 x.dels ∧ OwnF (W4.alloc (.cells #[] TF)) w3.heap.size (some ⟨w3.heap.size, 0, none⟩) 0 0 []) := by
    have hb' := hbw.alloc hbw.size (.cells #[] TF)
    have hm := OwnF.made W4
    rw [hs4] at hm
    refine ⟨hb', ?_, ?_, HS.out.1.below hb', ?_, hm⟩
    · refine Box.alloc ?_ _
      rw [e4]
      exact hx3.other (by omega) _ _
    · refine Box.alloc ?_ _
      rw [e4]
      exact (hq3.set 3 _).eq (by simp [eA])
    · refine OwnG.alloc ?_ _
      rw [e4]
      exact ho3.kept fun k e => Below.heap_setCell _ _ _ _ (by have := ho3.ge e; show k ≠ w1.heap.size; omega)
  have HE4 : Hid (W4 = w3.setCell ⟨w1.heap.size, 3, none⟩ (.slice a3 x.dels.length k3)) := e4
  have y3 : w3.cell? ⟨w1.heap.size, 3, none⟩ = some (.slice s.a x.dels.length s.c) := hq3.cell 3
  have z3 := hq3.soft 3
  have x4 : w3.cell? ⟨w.heap.size, 4, none⟩ = some (.slice s.a' x.adds.length s.c') := hx3.cell 4
  have hne : w.heap.size ≠ w1.heap.size := by omega
  have hlt0 : w.heap.size < w3.heap.size := by omega
  clear ho3 hb3 hg3 hq3 hx3 hb3w e4 hbw H2 c0 c1 c2 c3 c4
  go_wp2_with (first
    | (at_builtin
       rw [← HE4.out]
       refine wpList_appFl (W4.alloc (.cells #[] TF)) rfl _ _ rfl w3.heap.size (some ⟨w3.heap.size, 0, none⟩) 0 0 [] rfl H4.out.2.2.2.2.2 s.a' x.adds.length s.c' x.adds rfl H4.out.2.2.2.1.fs (by omega) (by simp; omega) ?_))
  intro a5 k5 w5 ho5 hb5 hg5
  have hq5 : Box w5 w1.heap.size TE (eA x ⟨a3, k3, s.a', s.c'⟩) := H4.out.2.2.1.kept (hb5.block _ (by omega))
  have hx5 : Box w5 w.heap.size TE (eA x s) := H4.out.2.1.kept (hb5.block _ (by omega))
  have hb5w : Below w.heap.size w w5 := H4.out.1.trans (hb5.mono (by omega))
  have hog5 : OwnG w5 (w1.heap.size + 1) a3 x.dels.length k3 x.dels := H4.out.2.2.2.2.1.kept fun k e => (Chg.grown hg5).block k (tag_lt (H4.out.2.2.2.2.1.tag e)) (fun e' => tag_ne (H4.out.2.2.2.2.2.tag e') (H4.out.2.2.2.2.1.tag e) (by decide) rfl)
  obtain ⟨W6, e6⟩ : ∃ W6, W6 = w5.setCell ⟨w1.heap.size, 4, none⟩ (.slice a5 x.adds.length k5) := ⟨_, rfl⟩
  have H6 : Hid (Below w.heap.size w W6 ∧ Box W6 w.heap.size TE (eA x s) ∧ Box W6 w1.heap.size TE (eA x ⟨a3, k3, a5, k5⟩) ∧ EdAt W6 x ⟨a3, k3, a5, k5⟩) := by
    rw [e6]
    refine ⟨hb5w.setCell (by show w.heap.size ≤ w1.heap.size; omega) _, hx5.other (by omega) _ _, (hq5.set 4 _).eq (by simp [eA]), OwnG.gs (B := w1.heap.size + 1) (hog5.kept fun k e => Below.heap_setCell _ _ _ _ (by have := hog5.ge e; show k ≠ w1.heap.size; omega)), OwnF.fs (B := w3.heap.size) (ho5.kept fun k e => Below.heap_setCell _ _ _ _ (by have := ho5.ge e; show k ≠ w1.heap.size; omega))⟩
  have hen : ∀ W, W = w5.setCell ⟨w1.heap.size, 4, none⟩ (.slice a5 x.adds.length k5) → Calls Try.prog 9 #[.agg #[.int .u64 (x.log : Int), .int .u64 (x.next : Int), .int .u64 (x.last : Int), .slice a3 x.dels.length k3, .slice a5 x.adds.length k5]] W fun e w' => ∃ a' c', e = .returned (.tuple #[.slice a' x.lay.length c', .int .i64 ((x.err : Nat) : Int)]) ∧ OwnB w' W6.heap.size a' x.lay.length c' x.lay ∧ Below W6.heap.size W6 w' := by
    rintro W rfl
    rw [← e6]
    exact eenc_any x ⟨a3, k3, a5, k5⟩ W6 H6.out.2.2.2 HS.out.2
  have y0 : w5.cell? ⟨w1.heap.size, 0, none⟩ = some (.int .u64 (x.log : Int)) := hq5.cell 0
  have y1 : w5.cell? ⟨w1.heap.size, 1, none⟩ = some (.int .u64 (x.next : Int)) := hq5.cell 1
  have y2 : w5.cell? ⟨w1.heap.size, 2, none⟩ = some (.int .u64 (x.last : Int)) := hq5.cell 2
  clear y3 z3 x4
  have y3 : w5.cell? ⟨w1.heap.size, 3, none⟩ = some (.slice a3 x.dels.length k3) := hq5.cell 3
  have y4 : w5.cell? ⟨w1.heap.size, 4, none⟩ = some (.slice s.a' x.adds.length s.c') := hq5.cell 4
  have z4 := hq5.soft 4
  clear ho5 hb5 hg5 hq5 hx5 hb5w hog5 e6 H4 HE4 hs4
  go_wp2_with fail
  refine (hen _ rfl).mono ?_
  rintro _ w7 ⟨a7, k7, rfl, ho7, hb7⟩
  have H7 : Hid (Below w.heap.size w w7 ∧ Box w7 w.heap.size TE (eA x s) ∧ Box w7 w1.heap.size TE (eA x ⟨a3, k3, a5, k5⟩) ∧ EdAt w7 x ⟨a3, k3, a5, k5⟩ ∧ BsAt w7 a7 x.lay.length k7 x.lay) := ⟨H6.out.1.trans (hb7.mono H6.out.1.size), H6.out.2.1.kept (hb7.block _ H6.out.2.1.lt), H6.out.2.2.1.kept (hb7.block _ H6.out.2.2.1.lt), H6.out.2.2.2.below hb7, ho7.bs⟩
  obtain ⟨c0, c1, c2, c3, c4⟩ := H7.out.2.1.five
  clear hen ho7 hb7 H6 y0 y1 y2 y3 y4 z4
  go_wp2_with fail
  refine (reenc_any x s w7 (HS.out.1.below H7.out.1) HS.out.2).mono ?_
  rintro _ w8 ⟨a8, k8, rfl, ho8, hb8⟩
  have H8 : Hid (Below w.heap.size w w8 ∧ Box w8 w.heap.size TE (eA x s) ∧ Box w8 w1.heap.size TE (eA x ⟨a3, k3, a5, k5⟩) ∧ EdAt w8 x ⟨a3, k3, a5, k5⟩ ∧ BsAt w8 a7 x.lay.length k7 x.lay ∧ BsAt w8 a8 x.lay.length k8 x.lay) := ⟨H7.out.1.trans (hb8.mono H7.out.1.size), H7.out.2.1.kept (hb8.block _ H7.out.2.1.lt), H7.out.2.2.1.kept (hb8.block _ H7.out.2.2.1.lt), H7.out.2.2.2.1.below hb8, H7.out.2.2.2.2.below (Nat.le_refl _) hb8, ho8.bs⟩
  clear c0 c1 c2 c3 c4
  obtain ⟨c0, c1, c2, c3, c4⟩ := H8.out.2.1.five
  obtain ⟨y0, y1, y2, y3, y4⟩ := H8.out.2.2.1.five
  clear ho8 hb8 H7
  go_wp2_with fail
  refine (same_eq (x := x) (s := ⟨a3, k3, a5, k5⟩) (t := s) H8.out.2.2.2.1 (HS.out.1.below H8.out.1)).mono ?_
  rintro _ w9 ⟨rfl, hb9⟩
  have H9 : Hid (Below w.heap.size w w9.drew ∧ Box w9.drew w.heap.size TE (eA x s) ∧ BsAt w9.drew a7 x.lay.length k7 x.lay ∧ BsAt w9.drew a8 x.lay.length k8 x.lay) := ⟨(H8.out.1.trans (hb9.mono H8.out.1.size)).drew, H8.out.2.1.kept (hb9.block _ H8.out.2.1.lt), (H8.out.2.2.2.2.1.below (Nat.le_refl _) hb9).drew, (H8.out.2.2.2.2.2.below (Nat.le_refl _) hb9).drew⟩
  clear c0 c1 c2 c3 c4 y0 y1 y2 y3 y4 hb9 H8
  obtain ⟨c0, c1, c2, c3, c4⟩ := H9.out.2.1.five
  have q1 := conv_of H9.out.2.2.1
  have q2 := conv_of H9.out.2.2.2
  have HK1 : Hid (∀ W, Below w.heap.size w W → Calls Try.prog 12 #[.agg #[.int .u64 (x.log : Int), .int .u64 (x.next : Int), .int .u64 (x.last : Int), .slice s.a x.dels.length s.c, .slice s.a' x.adds.length s.c']] W fun e w' => e = .returned (.int .i64 ((x.err : Nat) : Int)) ∧ Below W.heap.size W w') := fun W hW => echeck_any x s W (HS.out.1.below hW) HS.out.2
  have HK2 : Hid (∀ W, Below w.heap.size w W → Calls Try.prog 13 #[.agg #[.int .u64 (x.log : Int), .int .u64 (x.next : Int), .int .u64 (x.last : Int), .slice s.a x.dels.length s.c, .slice s.a' x.adds.length s.c']] W fun e w' => e = .returned (.int .i64 ((x.err : Nat) : Int)) ∧ Below W.heap.size W w') := fun W hW => recheck_any x s W (HS.out.1.below hW) HS.out.2
  generalize hlb : x.lay = lb at H9 q1 q2 ⊢
  clear hlb
  generalize x.err = er at HK1 HK2 ⊢
  generalize hLb : lb.length = nb at H9 q1 q2 ⊢
  clear hLb
  have HLB : Hid (∀ V : World, BsAt V a7 nb k7 lb → (convert 28 9 (.slice a7 nb k7)).run Try.prog V = .ok (.string (strOf lb)) V) := fun V hV => conv_of hV
  have HLB2 : Hid (∀ V : World, BsAt V a8 nb k8 lb → (convert 28 9 (.slice a8 nb k8)).run Try.prog V = .ok (.string (strOf lb)) V) := fun V hV => conv_of hV
  generalize strOf lb = SB at q1 q2 HLB HLB2
  go_wp2_with fail
  go_region_held3 (fun V => V.cell? ⟨w.heap.size, 0, none⟩ = some (.int .u64 (x.log : Int)) ∧ V.cell? ⟨w.heap.size, 1, none⟩ = some (.int .u64 (x.next : Int)) ∧ V.cell? ⟨w.heap.size, 2, none⟩ = some (.int .u64 (x.last : Int)) ∧ V.cell? ⟨w.heap.size, 3, none⟩ = some (.slice s.a x.dels.length s.c) ∧ V.cell? ⟨w.heap.size, 4, none⟩ = some (.slice s.a' x.adds.length s.c') ∧ (convert 28 9 (.slice a7 nb k7)).run Try.prog V = .ok (.string SB) V ∧ (convert 28 9 (.slice a8 nb k8)).run Try.prog V = .ok (.string SB) V) (first | exact ⟨c0, c1, c2, c3, c4, q1, q2⟩ | go_keep)
    (first
     | (go_at_call 12; refine (HK1.out _ H9.out.1).mono ?_; rintro _ vx ⟨rfl, hbx⟩
        have H9 : Hid (Below w.heap.size w vx ∧ Box vx w.heap.size TE (eA x s) ∧ BsAt vx a7 nb k7 lb ∧ BsAt vx a8 nb k8 lb) := ⟨H9.out.1.trans (hbx.mono H9.out.1.size), H9.out.2.1.kept (hbx.block _ H9.out.2.1.lt), H9.out.2.2.1.below (Nat.le_refl _) hbx, H9.out.2.2.2.below (Nat.le_refl _) hbx⟩
        obtain ⟨c0, c1, c2, c3, c4⟩ := H9.out.2.1.five
        have q1 := HLB.out _ H9.out.2.2.1
        have q2 := HLB2.out _ H9.out.2.2.2
        clear hbx)
     | (go_at_call 13; refine (HK2.out _ H9.out.1).mono ?_; rintro _ vx ⟨rfl, hbx⟩
        have H9 : Hid (Below w.heap.size w vx ∧ Box vx w.heap.size TE (eA x s) ∧ BsAt vx a7 nb k7 lb ∧ BsAt vx a8 nb k8 lb) := ⟨H9.out.1.trans (hbx.mono H9.out.1.size), H9.out.2.1.kept (hbx.block _ H9.out.2.1.lt), H9.out.2.2.1.below (Nat.le_refl _) hbx, H9.out.2.2.2.below (Nat.le_refl _) hbx⟩
        obtain ⟨c0, c1, c2, c3, c4⟩ := H9.out.2.1.five
        have q1 := HLB.out _ H9.out.2.2.1
        have q2 := HLB2.out _ H9.out.2.2.2
        clear hbx))
  all_goals
    go_wp2
    go_ret
    exact ⟨ret1 (by simp), H9.out.1⟩
end Go.Proofs.Ytiflepadjcpjjaa
