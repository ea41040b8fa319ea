/- The walk of SstableNil. -/
import Derived.Test.YtgegjcnjlibfdaaGreatQa19
import Derived.Test.YtgegjcnjlibfdaaGreatT12All
namespace Go.Proofs.YtgegjcnjlibfdaaGreat
open Go.RowKit
set_option maxRecDepth 100000 in
set_option maxHeartbeats 1000000 in
theorem sstableNil_walk (s0 : ByteArray) (a1 : Int) (w : World) (_ : s0.size ≤ 140737488351232) (h1 : (Lit.int .u64 a1).wf = true) : Calls Tryz.prog 8 #[.string s0, .int .u64 a1] w fun e w' => e = .returned (.bool true) ∧ Below w.heap.size w w' := by
  obtain ⟨q, rfl⟩ : ∃ q : Nat, a1 = (q : Int) := by
    simp [Lit.wf, IntKind.min, IntKind.max, IntKind.bits, IntKind.signed] at h1
    exact ⟨a1.toNat, by omega⟩
  clear h1
  go_enter Tryz.func8, Tryz.ntmps8
  go_wp2_with fail
  refine (awake12_any _).mono ?_
  rintro _ w1 ⟨rfl, hb1⟩
  have H1 : Hid (Below w.heap.size w w1) := hb1
  clear hb1
  go_wp2_with fail
  refine (all_nil _).mono ?_
  rintro _ w2 ⟨rfl, hb2⟩
  have H2 : Hid (Below w.heap.size w w2) := H1.out.trans (hb2.mono H1.out.size)
  clear hb2
  go_wp2_with fail
  refine (get_nil s0 q _).mono ?_
  rintro _ w3 ⟨rfl, hb3⟩
  have H3 : Hid (Below w.heap.size w w3) := H2.out.trans (hb3.mono H2.out.size)
  clear hb3
  go_wp2_with fail
  refine (blocks_nil _).mono ?_
  rintro _ w4 ⟨rfl, hw4⟩
  subst hw4
  go_wp2
  go_ret
  exact ⟨ret1 rfl, H3.out⟩
end Go.Proofs.YtgegjcnjlibfdaaGreat
