/- The walk of ManifestNil. -/
import Derived.Test.YtmlfbihlbiikeabGreatDoorQa48
import Derived.Test.YtmlfbihlbiikeabGreatDoorQa32
namespace Go.Proofs.YtmlfbihlbiikeabGreatDoor
open Go.RowKit
set_option linter.unusedVariables false
set_option linter.unusedSimpArgs false
set_option maxRecDepth 100000
set_option maxHeartbeats 4000000 in
theorem manifestNil_walk (x : PE) (sx : SE) (w : World) (hx : EdAt w x sx) (fx : WfE x) (ex : x.dels.length * 16 ≤ 140737488351232) (gx : x.adds.length * 88 ≤ 140737488351232) (hg : Gl w) (h6 : 6 ≤ w.heap.size) :
    Calls Tryz.prog 4 #[.agg #[.int .u64 (x.log : Int), .int .u64 (x.next : Int), .int .u64 (x.last : Int), .slice sx.a x.dels.length sx.c, .slice sx.a' x.adds.length sx.c']] w fun e w' => e = .returned (.bool true) ∧ Below w.heap.size w w' := by
  have hb0 : Below w.heap.size w (w.alloc (.cells (eA x sx) TE)) := (Below.refl _ _).alloc (Nat.le_refl _) _
  have HA := awake_yes (w.alloc (.cells (eA x sx) TE)) (hg.later hb0) (Nat.le_trans h6 hb0.size)
  have HARG : Hid (Gl w ∧ Below w.heap.size w (w.alloc (.cells (eA x sx) TE)) ∧ Box (w.alloc (.cells (eA x sx) TE)) w.heap.size TE (eA x sx)) := ⟨hg, hb0, Box.new _ _ _⟩
  clear hx fx ex gx hg h6 hb0
  go_enter Tryz.func4, Tryz.ntmps4
  go_wp2_with fail
  refine HA.mono ?_
  rintro _ wa ⟨rfl, hba⟩
  have HRA : Hid (Gl wa ∧ Below w.heap.size w wa ∧ Box wa w.heap.size TE (eA x sx)) := by
    have hb := HARG.out.2.1.trans (hba.mono HARG.out.2.1.size)
    exact ⟨HARG.out.1.later hb, hb, HARG.out.2.2.kept (hba.block _ HARG.out.2.2.lt)⟩
  have HL := load_nil wa HRA.out.1
  clear HA hba HARG
  go_wp2_with fail
  refine HL.mono ?_
  rintro _ w2 ⟨rfl, hb2⟩
  obtain ⟨W3, eW3, H3⟩ : ∃ W3, Hid (W3 = w2.alloc (.cells #[.int .u64 (zS.num : Int), .slice (sv0.a 0) (zS.v 0).length (sv0.c 0), .slice (sv0.a 1) (zS.v 1).length (sv0.c 1), .slice (sv0.a 2) (zS.v 2).length (sv0.c 2), .slice (sv0.a 3) (zS.v 3).length (sv0.c 3), .int .u64 (zS.log : Int), .int .u64 (zS.next : Int), .int .u64 (zS.last : Int)] TSt)) ∧ Hid (Below w.heap.size w W3 ∧ Box W3 w2.heap.size TSt (sA zS sv0) ∧ Box W3 w.heap.size TE (eA x sx)) := by
    have hb := HRA.out.2.1.trans (hb2.mono HRA.out.2.1.size)
    have hb3 : Below w2.heap.size w2 (w2.alloc (.cells (sA zS sv0) TSt)) := (Below.refl _ _).alloc (Nat.le_refl _) _
    exact ⟨_, rfl, hb.trans (hb3.mono hb.size), Box.new _ _ _, (HRA.out.2.2.kept (hb2.block _ HRA.out.2.2.lt)).alloc _⟩
  have HS := ssame_any (s := zS) (s' := zS) (t := sv0) (t' := sv0) (w := W3) (OwnV.none _ 0).at (OwnV.none _ 0).at
  obtain ⟨c0, c1, c2, c3, c4, c5, c6, c7⟩ := H3.out.2.1.eight
  clear HL hb2
  go_upto_region 3 with fail
  rw [← eW3.out]
  clear eW3
  generalize w2.heap.size = q4 at H3 c0 c1 c2 c3 c4 c5 c6 c7 ⊢
  go_wp2_with fail
  refine HS.mono ?_
  rintro _ w4 ⟨⟨b, rfl, hb⟩, hb4⟩
  obtain rfl : b = true := hb (PSt.Like.refl _)
  have H4 : Hid (Below w.heap.size w w4 ∧ Box w4 w.heap.size TE (eA x sx)) := ⟨H3.out.1.trans (hb4.mono H3.out.1.size), H3.out.2.2.kept (hb4.block _ H3.out.2.2.lt)⟩
  have HW := write_nil w4 (sV zS sv0) ⟨_, _, rfl⟩
  clear HS hb hb4 H3 c0 c1 c2 c3 c4 c5 c6 c7
  go_wp2_with fail
  refine HW.mono ?_
  rintro _ w5 ⟨rfl, hb5⟩
  have H5 : Hid (Below w.heap.size w w5 ∧ Box w5 w.heap.size TE (eA x sx)) := ⟨H4.out.1.trans (hb5.mono H4.out.1.size), H4.out.2.kept (hb5.block _ H4.out.2.lt)⟩
  obtain ⟨x0, x1, x2, x3, x4⟩ := H5.out.2.five
  have HP := append_nil15 w5 x sx 1
  clear HW hb5 H4
  go_wp2_with fail
  refine HP.mono ?_
  rintro _ w6 ⟨rfl, hb6⟩
  go_wp2
  try go_ret
  exact ⟨ret1 rfl, H5.out.1.trans (hb6.mono H5.out.1.size)⟩
end Go.Proofs.YtmlfbihlbiikeabGreatDoor
