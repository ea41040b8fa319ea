/- The walk of ViewSees. -/
import Derived.Test.YtjoamhcehpjepaaQa16
import Derived.Test.YtjoamhcehpjepaaM17Vw
namespace Go.Proofs.Ytjoamhcehpjepaa
open Go.RowKit
theorem viewSees_walk (a : Option Addr) (n c : Nat) (l : List KV) (a1 : Int) (u : ByteArray) (w : World) (h : KsAt w a n c l) (g : (a = none → c = 0) ∧ ∀ x : Addr, a = some x → x.spot = none) (_e : n ≤ 2932031007317) (hwf : ∀ e ∈ l, WfE e) (w1 : (Lit.int .u64 a1).wf = true) (_e2 : u.size ≤ 140737488351232) :
    Calls Try.prog 4 #[.slice a n c, .int .u64 a1, .string u] w fun e w' => e = .returned (.bool true) ∧ Below w.heap.size w w' := by
  obtain ⟨s, rfl, hs⟩ : ∃ s : Nat, a1 = (s : Int) ∧ s < 18446744073709551616 := by
    simp [Lit.wf, IntKind.min, IntKind.max, IntKind.bits, IntKind.signed] at w1
    exact ⟨a1.toNat, by omega, by omega⟩
  exact viewSees_of vw17 a n c l s u w h hwf g.1 hs
end Go.Proofs.Ytjoamhcehpjepaa
