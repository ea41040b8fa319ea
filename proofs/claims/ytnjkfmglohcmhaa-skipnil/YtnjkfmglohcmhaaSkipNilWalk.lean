/- SkipNil: the walk. -/
import Derived.Test.YtnjkfmglohcmhaaS7Awake
import Derived.Test.YtnjkfmglohcmhaaS7SeekB
import Derived.Test.YtnjkfmglohcmhaaS7Args
namespace Go.Proofs.Ytnjkfmglohcmhaa
open Go.RowKit
set_option maxRecDepth 100000 in
set_option maxHeartbeats 1000000 in
theorem skipNil_walk (s : ByteArray) (n : Int) (w : World) (_hs : s.size ≤ 140737488351232) (_hn : (Lit.int .i64 n).wf = true) : Calls Try.prog 8 #[.string s, .int .i64 n] w fun e w' => e = .returned (.bool true) ∧ Below w.heap.size w w' := by
  clear _hs _hn
  go_enter Try.func8, Try.ntmps8
  go_wp2_with fail
  refine (awake_any _).mono ?_
  rintro _ w1 ⟨rfl, hb⟩
  have HB : Hid (Below w.heap.size w w1) := hb
  clear hb
  go_wp2_with fail
  refine (begin_nil n).mono ?_
  rintro _ w2 ⟨rfl, hw⟩
  obtain rfl := hw.symm
  clear hw
  go_wp2_with fail
  refine (step_nil n _).mono ?_
  rintro _ w2 ⟨rfl, hw⟩
  obtain rfl := hw.symm
  clear hw
  go_wp2_with fail
  refine (seek_nil _ s).mono ?_
  rintro _ w2 ⟨rfl, hb⟩
  have HB2 : Hid (Below w.heap.size w w2) := HB.out.trans (hb.mono HB.out.size)
  clear hb HB
  go_wp2_with fail
  refine (before_nil _ s).mono ?_
  rintro _ w3 ⟨rfl, hb⟩
  have HB3 : Hid (Below w.heap.size w w3) := HB2.out.trans (hb.mono HB2.out.size)
  clear hb HB2
  go_wp2_with fail
  refine (last_nil _).mono ?_
  rintro _ w4 ⟨rfl, hw⟩
  obtain rfl := hw.symm
  clear hw
  have hq : ((⟨#[]⟩ : ByteArray).toList == (⟨#[]⟩ : ByteArray).toList) = true := by simp
  go_wp2_with fail
  refine (keys_none none n _ (.inl rfl)).mono ?_
  rintro _ w4 ⟨rfl, hw⟩
  obtain rfl := hw.symm
  clear hw
  go_wp2
  go_returns
  exact ⟨rfl, HB3.out⟩
end Go.Proofs.Ytnjkfmglohcmhaa
