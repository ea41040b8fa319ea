/- The walk of ViewNil, by what is asked of view's own. -/
import Derived.Test.YtjoamhcehpjepaaQa06
namespace Go.Proofs.Ytjoamhcehpjepaa
open Go.RowKit
set_option linter.unusedVariables false
set_option maxRecDepth 100000 in
set_option maxHeartbeats 1000000 in
theorem viewNil_of {D : VwRel} (F : VwOk D) (N : VwNil) (u : ByteArray) (w : World) :
    Calls Try.prog 7 #[.string u] w fun e w' => e = .returned (.bool true) ∧ Below w.heap.size w w' := by
  have heq : ∀ V : World, (binOp .eql TItm (.agg #[.string ⟨#[]⟩, .string ⟨#[]⟩]) (.agg #[.string ⟨#[]⟩, .string ⟨#[]⟩])).run Try.prog V = .ok (.bool true) V := fun V => by
    simp [go_sem, Try.underlying35, Try.underlying9]
  have HA : Hid (∀ V : World, Calls Try.prog 13 #[nilVw] V fun e w' => e = .returned (.tuple #[.agg #[.string ⟨#[]⟩, .string ⟨#[]⟩], .bool false]) ∧ Below V.heap.size V w') := fun V => N.at' V
  go_enter Try.func7, Try.ntmps7
  go_wp2_with fail
  refine (awake17 F _).mono ?_
  rintro _ w1 ⟨rfl, hb1⟩
  have H1 : Hid (Below w.heap.size w w1) := hb1
  clear hb1
  go_wp2_with fail
  refine (N.first _).mono ?_
  rintro _ w2 ⟨rfl, hb2⟩
  have H2 : Hid (Below w.heap.size w w2) := H1.out.trans (hb2.mono H1.out.size)
  clear hb2 H1
  go_wp2_with fail
  refine (N.last _).mono ?_
  rintro _ w3 ⟨rfl, hb3⟩
  have H3 : Hid (Below w.heap.size w w3) := H2.out.trans (hb3.mono H2.out.size)
  clear hb3 H2
  go_wp2_with fail
  refine (N.seek u _).mono ?_
  rintro _ w4 ⟨rfl, hb4⟩
  have H4 : Hid (Below w.heap.size w w4) := H3.out.trans (hb4.mono H3.out.size)
  clear hb4 H3
  go_wp2_with fail
  refine (N.next _).mono ?_
  rintro _ w5 ⟨rfl, hb5⟩
  have H5 : Hid (Below w.heap.size w w5) := H4.out.trans (hb5.mono H4.out.size)
  clear hb5 H4
  go_wp2_with fail
  refine (N.prev _).mono ?_
  rintro _ w6 ⟨rfl, hb6⟩
  have H6 : Hid (Below w.heap.size w w6) := H5.out.trans (hb6.mono H5.out.size)
  clear hb6 H5
  go_wp2_with fail
  refine (HA.out _).mono ?_
  rintro _ w7 ⟨rfl, hb7⟩
  have H7 : Hid (Below w.heap.size w w7) := H6.out.trans (hb7.mono H6.out.size)
  clear hb7 H6
  go_wp2
  go_ret
  exact ⟨ret1 rfl, H7.out.alloc H7.out.size _⟩
end Go.Proofs.Ytjoamhcehpjepaa
