/- The walk of ViewTurns. -/
import Derived.Test.YtjoamhcehpjepaaV17WTurns
import Derived.Test.YtjoamhcehpjepaaM17Vw
namespace Go.Proofs.Ytjoamhcehpjepaa
open Go.RowKit
theorem viewTurns_walk (a : Option Addr) (n c : Nat) (L : List (List KV)) (a1 : Int) (w : World) (h : LsAt w a n c L) (hwf : WfLs L) (w1 : (Lit.int .u64 a1).wf = true) :
    Calls Try.prog 6 #[.slice a n c, .int .u64 a1] w fun e w' => e = .returned (.bool true) ∧ Below w.heap.size w w' := by
  obtain ⟨s, rfl, hs⟩ : ∃ s : Nat, a1 = (s : Int) ∧ s < 18446744073709551616 := by
    simp [Lit.wf, IntKind.min, IntKind.max, IntKind.bits, IntKind.signed] at w1
    exact ⟨a1.toNat, by omega, by omega⟩
  exact viewTurns_of vw17 a n c L s w h hwf hs
end Go.Proofs.Ytjoamhcehpjepaa
