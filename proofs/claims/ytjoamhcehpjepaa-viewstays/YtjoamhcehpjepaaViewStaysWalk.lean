/- The walk of ViewStays. -/
import Derived.Test.YtjoamhcehpjepaaQa17
import Derived.Test.YtjoamhcehpjepaaM17Vw
namespace Go.Proofs.Ytjoamhcehpjepaa
open Go.RowKit
theorem viewStays_walk (a : Option Addr) (n c : Nat) (l : List KV) (b : Option Addr) (m d : Nat) (k : List KV) (a1 : Int) (w : World) (h : KsAt w a n c l) (g : (a = none → c = 0) ∧ ∀ x : Addr, a = some x → x.spot = none) (_e : n ≤ 2932031007317) (hwf : ∀ e ∈ l, WfE e) (h2 : KsAt w b m d k) (g2 : (b = none → d = 0) ∧ ∀ x : Addr, b = some x → x.spot = none) (_e2 : m ≤ 2932031007317) (hwg : ∀ e ∈ k, WfE e) (w1 : (Lit.int .u64 a1).wf = true) :
    Calls Try.prog 5 #[.slice a n c, .slice b m d, .int .u64 a1] w fun e w' => e = .returned (.bool true) ∧ Below w.heap.size w w' := by
  obtain ⟨s, rfl, hs⟩ : ∃ s : Nat, a1 = (s : Int) ∧ s < 18446744073709551616 := by
    simp [Lit.wf, IntKind.min, IntKind.max, IntKind.bits, IntKind.signed] at w1
    exact ⟨a1.toNat, by omega, by omega⟩
  exact viewStays_of vw17 a n c l b m d k s w hwf hwg h g.1 h2 g2.1 hs
end Go.Proofs.Ytjoamhcehpjepaa
