/- The walk of ViewNil. -/
import Derived.Test.YtjoamhcehpjepaaV17WNil
import Derived.Test.YtjoamhcehpjepaaM17Vw
namespace Go.Proofs.Ytjoamhcehpjepaa
open Go.RowKit
theorem viewNil_walk (u : ByteArray) (w : World) (_e : u.size ≤ 140737488351232) :
    Calls Try.prog 7 #[.string u] w fun e w' => e = .returned (.bool true) ∧ Below w.heap.size w w' := by
  exact viewNil_of vw17 vwn17 u w
end Go.Proofs.Ytjoamhcehpjepaa
