/- Both arenas in one memory, told by the same plain arena. -/
import Derived.Test.YtedddgkdpeielaaB6Ref3
import Derived.Test.YtedddgkdpeielaaB6Awake
import Derived.Test.YtedddgkdpeielaaB6Args
namespace Go.Proofs.Ytedddgkdpeielaa
open Go.RowKit
structure Both (w0 w : World) (p q : Nat) (A : PA) : Prop where
  ar : ArAt w p A
  rf : ∃ gb ac cc, RfAt w w0.heap.size q gb ac cc A
  hp : w0.heap.size ≤ p
  base : Below w0.heap.size w0 w
section
variable {w0 w w1 w2 : World} {p q : Nat} {A A' : PA}
theorem Both.below (h : Both w0 w p q A) (hb : Below w.heap.size w w1) : Both w0 w1 p q A := by
  obtain ⟨gb, ac, cc, hr⟩ := h.rf
  exact ⟨h.ar.below hb, ⟨gb, ac, cc, hr.below hb⟩, h.hp, h.base.trans (hb.mono h.base.size)⟩
/-- One does it, then the other one. -/
theorem Both.step {gb : Nat} {ac : Option Addr} {cc : Nat} (h : Both w0 w p q A) (hr : RfAt w w0.heap.size q gb ac cc A) (h1 : ArAt w1 p A') (c1 : Chg (On p) w w1) : RfAt w1 w0.heap.size q gb ac cc A ∧ Below w0.heap.size w0 w1 ∧ (∀ w2, (∃ ac' cc', RfAt w2 w0.heap.size q gb ac' cc' A') → Chg (RFoot q gb ac) w1 w2 → Both w0 w2 p q A') := by
  have hr1 : RfAt w1 w0.heap.size q gb ac cc A := hr.chg c1 (fun k hk => hr.offAr h.ar hk)
  have hb1 : Below w0.heap.size w0 w1 := h.base.trans (c1.below (fun k hk => by rw [hk]; exact h.hp) h.base.size)
  refine ⟨hr1, hb1, fun w2 ⟨ac', cc', h2⟩ c2 => ⟨h1.chg c2 (fun hk => hr1.offAr h1 hk rfl), ⟨gb, ac', cc', h2⟩, h.hp, hb1.trans (c2.below (fun k hk => hr1.foot_ge hk) hb1.size)⟩⟩
end
/-- A call's struct, boxed. -/
abbrev callArr (c : CallV) : Array Value := #[.int .i64 c.kind, .int .i64 c.pos, .int .i64 c.n, .int .i64 c.m, .slice c.ba c.bl c.bc]
abbrev TC : TypeId := 34
end Go.Proofs.Ytedddgkdpeielaa
