/- asked: Alloc. -/
import Derived.Test.YtedddgkdpeielaaB6Joint
namespace Go.Proofs.Ytedddgkdpeielaa
open Go.RowKit
set_option linter.unusedVariables false
set_option maxRecDepth 100000 in
set_option maxHeartbeats 2000000 in
theorem asked_1 {w0 w : World} {p q : Nat} {A : PA} (h : Both w0 w p q A) (pos n m : Int) (ba : Option Addr) (bl bc : Nat) (bs : List UInt8) (hp : in64 pos) (hn : in64 n) (hm : in64 m) (hb : BsAt w0 ba bl bc bs) (hbc : bc ≤ 140737488351232) : Calls Try.prog 11 #[at_ p, at_ q, .agg #[.int .i64 1, .int .i64 pos, .int .i64 n, .int .i64 m, .slice ba bl bc]] w fun e w' => e = .returned (.bool true) ∧ ∃ A', Both w0 w' p q A' := by
  obtain ⟨gb, ac, cc, hr⟩ := h.rf
  have HB : Hid (Both w0 (w.alloc (.cells #[.int .i64 1, .int .i64 pos, .int .i64 n, .int .i64 m, .slice ba bl bc] TC)) p q A) := h.below ((Below.refl _ _).alloc (Nat.le_refl _) _)
  have HR : Hid (RfAt (w.alloc (.cells #[.int .i64 1, .int .i64 pos, .int .i64 n, .int .i64 m, .slice ba bl bc] TC)) w0.heap.size q gb ac cc A) := hr.alloc _
  have HX : Hid (Box (w.alloc (.cells #[.int .i64 1, .int .i64 pos, .int .i64 n, .int .i64 m, .slice ba bl bc] TC)) w.heap.size TC #[.int .i64 1, .int .i64 pos, .int .i64 n, .int .i64 m, .slice ba bl bc]) := Box.new w _ _
  have HPS : Hid (in64 pos) := hp
  have HNS : Hid (in64 n) := hn
  have HMS : Hid (in64 m) := hm
  clear h hr hp hn hm
  clear hb hbc
  go_enter Try.func11, Try.ntmps11
  go_wp2_with fail
  refine (alloc_at HB.out.ar n HNS.out).mono ?_
  rintro _ w1 ⟨rfl, a1, k1⟩
  have hx1 : Box w1 w.heap.size TC #[.int .i64 1, .int .i64 pos, .int .i64 n, .int .i64 m, .slice ba bl bc] := HX.out.kept (k1.block _ HX.out.lt (tag_ne HX.out.tag HB.out.ar.box.tag (by decide)))
  have c1 := hx1.cell 1
  have c2 := hx1.cell 2
  have c3 := hx1.cell 3
  simp at c1 c2 c3
  obtain ⟨hr1, hb1, fin⟩ := HB.out.step HR.out a1 k1
  have HR1 : Hid (RfAt w1 w0.heap.size q gb ac cc A) := hr1
  have HF : Hid (∀ w2, (∃ ac' cc', RfAt w2 w0.heap.size q gb ac' cc' (A.alloc n).2.2) → Chg (RFoot q gb ac) w1 w2 → Both w0 w2 p q (A.alloc n).2.2) := fin
  clear hr1 hb1 fin a1 k1 hx1
  go_wp2_with fail
  refine (ralloc_at HR1.out n HNS.out).mono ?_
  rintro _ w2 ⟨rfl, r2, k2⟩
  go_wp2
  go_returns
  exact ⟨rfl, _, HF.out w2 ⟨_, _, r2⟩ k2⟩
end Go.Proofs.Ytedddgkdpeielaa
