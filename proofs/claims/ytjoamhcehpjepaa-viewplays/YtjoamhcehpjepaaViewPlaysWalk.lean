/- The walk of ViewPlays. -/
import Derived.Test.YtjoamhcehpjepaaQa07
import Derived.Test.YtjoamhcehpjepaaM17Vw
namespace Go.Proofs.Ytjoamhcehpjepaa
open Go.RowKit
theorem viewPlays_walk (a : Option Addr) (n c : Nat) (L : List (List KV)) (a1 : Int) (aw : Option Addr) (nw cw : Nat) (ways : List (Int × ByteArray)) (w : World) (h : LsAt w a n c L) (hwf : WfLs L) (w1 : (Lit.int .u64 a1).wf = true) (hw : WsAt17 w aw nw cw ways) (hn : nw ≤ 9223372036854775807) :
    Calls Try.prog 3 #[.slice a n c, .int .u64 a1, .slice aw nw cw] w fun e w' => e = .returned (.bool true) ∧ Below w.heap.size w w' := by
  obtain ⟨s, rfl, hs⟩ : ∃ s : Nat, a1 = (s : Int) ∧ s < 18446744073709551616 := by
    simp [Lit.wf, IntKind.min, IntKind.max, IntKind.bits, IntKind.signed] at w1
    exact ⟨a1.toNat, by omega, by omega⟩
  exact viewPlays_of vw17 a n c L s aw nw cw ways w h hwf hs hw hn
end Go.Proofs.Ytjoamhcehpjepaa
