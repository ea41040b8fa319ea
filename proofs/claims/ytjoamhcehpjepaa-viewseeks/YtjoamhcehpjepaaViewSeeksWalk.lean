/- The walk of ViewSeeks. -/
import Derived.Test.YtjoamhcehpjepaaV17WSeeks
import Derived.Test.YtjoamhcehpjepaaM17Vw
namespace Go.Proofs.Ytjoamhcehpjepaa
open Go.RowKit
theorem viewSeeks_walk (a : Option Addr) (n c : Nat) (L : List (List KV)) (a1 : Int) (u : ByteArray) (w : World) (h : LsAt w a n c L) (hwf : WfLs L) (w1 : (Lit.int .u64 a1).wf = true) (_e : u.size ≤ 140737488351232) :
    Calls Try.prog 8 #[.slice a n c, .int .u64 a1, .string u] w fun e w' => e = .returned (.bool true) ∧ Below w.heap.size w w' := by
  obtain ⟨s, rfl, hs⟩ : ∃ s : Nat, a1 = (s : Int) ∧ s < 18446744073709551616 := by
    simp [Lit.wf, IntKind.min, IntKind.max, IntKind.bits, IntKind.signed] at w1
    exact ⟨a1.toNat, by omega, by omega⟩
  exact viewSeeks_of vw17 a n c L s u w h hwf hs
end Go.Proofs.Ytjoamhcehpjepaa
