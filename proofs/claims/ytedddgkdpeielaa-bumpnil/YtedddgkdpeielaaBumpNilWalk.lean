/- BumpNil: the walk. -/
import Derived.Test.YtedddgkdpeielaaB6Awake
import Derived.Test.YtedddgkdpeielaaB6Args
namespace Go.Proofs.Ytedddgkdpeielaa
open Go.RowKit
set_option maxRecDepth 100000 in
set_option maxHeartbeats 1000000 in
theorem bumpNil_walk (c : CallV) (w : World) (hok : c.Ok w) : Calls Try.prog 6 #[.agg c.cells.toArray] w fun e w' => e = .returned (.bool true) ∧ Below w.heap.size w w' := by
  obtain ⟨kind, pos, n, m, ba, bl, bc, bs⟩ := c
  show Calls Try.prog _ #[.agg #[.int .i64 kind, .int .i64 pos, .int .i64 n, .int .i64 m, .slice ba bl bc]] w _
  have HX : Hid (Box (w.alloc (.cells #[.int .i64 kind, .int .i64 pos, .int .i64 n, .int .i64 m, .slice ba bl bc] 34)) w.heap.size 34 #[.int .i64 kind, .int .i64 pos, .int .i64 n, .int .i64 m, .slice ba bl bc]) := Box.new w _ _
  clear hok
  go_enter Try.func6, Try.ntmps6
  go_wp2_with fail
  refine (awake_any _).mono ?_
  rintro _ w1 ⟨rfl, hb⟩
  have hx : Box w1 w.heap.size 34 #[.int .i64 kind, .int .i64 pos, .int .i64 n, .int .i64 m, .slice ba bl bc] := HX.out.kept (hb.block _ HX.out.lt)
  have c1 := hx.cell 1
  have c2 := hx.cell 2
  have c3 := hx.cell 3
  have c4 := hx.cell 4
  simp at c1 c2 c3 c4
  have HB : Hid (Below w.heap.size w w1) := ((Below.refl _ _).alloc (Nat.le_refl _) _).trans (hb.mono (by simp))
  clear hb hx
  go_wp2_with fail
  refine (alloc_nil n).mono ?_
  rintro _ w2 ⟨rfl, hw⟩
  obtain rfl := hw.symm
  clear hw
  go_wp2_with fail
  refine (get_nil pos n).mono ?_
  rintro _ w2 ⟨rfl, hw⟩
  obtain rfl := hw.symm
  clear hw
  go_wp2_with fail
  refine cell_nil.mono ?_
  rintro _ w2 ⟨rfl, hw⟩
  obtain rfl := hw.symm
  clear hw
  go_wp2_with fail
  refine (load_nil pos).mono ?_
  rintro _ w2 ⟨rfl, hw⟩
  obtain rfl := hw.symm
  clear hw
  go_wp2_with fail
  refine (cas_nil pos n m).mono ?_
  rintro _ w2 ⟨rfl, hw⟩
  obtain rfl := hw.symm
  clear hw
  go_wp2_with fail
  refine (put_nil pos ba bl bc).mono ?_
  rintro _ w2 ⟨rfl, hw⟩
  obtain rfl := hw.symm
  clear hw
  go_wp2_with fail
  refine (store_nil pos n).mono ?_
  rintro _ w2 ⟨rfl, hw⟩
  obtain rfl := hw.symm
  clear hw
  go_wp2_with fail
  refine used_nil.mono ?_
  rintro _ w2 ⟨rfl, hw⟩
  obtain rfl := hw.symm
  clear hw
  go_wp2
  go_returns
  exact ⟨rfl, HB.out⟩
end Go.Proofs.Ytedddgkdpeielaa
