/- The walk of ViewFalls. -/
import Derived.Test.YtjoamhcehpjepabQa08
import Derived.Test.YtjoamhcehpjepabM17Vw
namespace Go.Proofs.Ytjoamhcehpjepab
open Go.RowKit
theorem viewFalls_walk (a : Option Addr) (n c : Nat) (L : List (List KV)) (a1 : Int) (u v : ByteArray) (w : World) (h : LsAt w a n c L) (hwf : WfLs L) (w1 : (Lit.int .u64 a1).wf = true) (_e : u.size ≤ 140737488351232) (_e2 : v.size ≤ 140737488351232) :
    Calls Try.prog 3 #[.slice a n c, .int .u64 a1, .string u, .string v] w fun e w' => e = .returned (.bool true) ∧ Below w.heap.size w w' := by
  obtain ⟨s, rfl, hs⟩ : ∃ s : Nat, a1 = (s : Int) ∧ s < 18446744073709551616 := by
    simp [Lit.wf, IntKind.min, IntKind.max, IntKind.bits, IntKind.signed] at w1
    exact ⟨a1.toNat, by omega, by omega⟩
  exact viewFalls_of vw17 a n c L s u v w h hwf _e hs
end Go.Proofs.Ytjoamhcehpjepab
